/-
  D: StandR KeepR2 CallR CallW AgainR ActD FirstR.
-/
import Derived.Test.YtnipbplghijdmaaGreatDoorD46
import Derived.Test.YtnipbplghijdmaaGreatDoorD35
set_option maxRecDepth 100000
set_option maxHeartbeats 8000000
set_option linter.unusedVariables false
set_option linter.unusedSimpArgs false
namespace Go.Proofs.YtnipbplghijdmaaGreatDoor
open RowKit Maps WideShapes Go.Proofs.Tryz
variable {U:Nat} {S S':jc} {s s' t:Rf.St} {Q R:Want} {ess:List (List Rf.Ch)} {es:List Rf.Ch} {sf N L N' L':Nat} {fl bd:Bool}
abbrev Jn(ess:List (List Rf.Ch))(fl:Bool):Nat:=ess.length-fl.toNat
structure ib(S:jc)(s:Rf.St)(ess:List (List Rf.Ch))(fl:Bool)(sf L:Nat)(bd:Bool):Prop where
 flb:fl=true->bd=true/\ess≠[]
 sf:sf<=Jn ess fl
 small:∀ b∈ess,b.length<=8
 len:ess.length<=L
 tell:s.tell=Rf.zj (ess.take (Jn ess fl))
 ok:s.Ok
 few:s.all.length<60000
 runs:Jm S s
structure J3(S:jc)(s:Rf.St)(ess:List (List Rf.Ch))(fl:Bool)(sf N L:Nat)(bd:Bool):Prop where
 st:ib S s ess fl sf L bd
 xi:(Norm S 20000 s (qi ess sf (Jn ess fl) N L)/\Rest S (qi ess sf (Jn ess fl) N L))\/(bd=true/\Left S 5400 (qi ess sf (Jn ess fl) N L))
structure yc(U:Nat)(S:jc)(s:Rf.St)(ess:List (List Rf.Ch))(fl:Bool)(sf N L:Nat)(bd:Bool):Prop where
 st:ib S s ess fl sf L bd
 left:Left S 5400 (qi ess sf (Jn ess fl) N L)
 norm:bd=false->Norm S U s (qi ess sf (Jn ess fl) N L)
theorem ib.mono(h:ib S s ess fl sf L bd)(b:L<=L'):ib S s ess fl sf L' bd:=⟨h.flb,h.sf,h.small,ZI h.len b,h.tell,h.ok,h.few,h.runs⟩
theorem ib.alike(h:ib S s ess fl sf L bd)(k:Alike S S'):ib S' s ess fl sf L bd:=⟨h.flb,h.sf,h.small,h.len,h.tell,h.ok,h.few,h.runs.alike k⟩
theorem ib.down(h:ib S s ess fl sf L bd):ib S s ess fl sf L true:=⟨fun e=>⟨rfl,(h.flb e).2⟩,h.sf,h.small,h.len,h.tell,h.ok,h.few,h.runs⟩
theorem Left.mono{U:Nat}(h:Left S U Q)(b:Q.Le R):Left S U R:=h.imp (fun h=>h.mono (zJ _) b) (fun h=>h.mono (zJ _) ⟨b.Jj,b.now,fun _ t=>t⟩)
theorem J3.mono(h:J3 S s ess fl sf N L bd)(c:N<=N')(b:L<=L'):J3 S s ess fl sf N' L' bd :=
 ⟨h.st.mono b,h.xi.imp (fun h=>⟨h.1.mono (zJ _) (qi.le c b),h.2.mono (qi.le c b)⟩) (fun h=>⟨h.1,h.2.mono (qi.le c b)⟩)⟩
theorem yc.mono(h:yc U S s ess fl sf N L bd)(c:N<=N')(b:L<=L'):yc U S s ess fl sf N' L' bd :=
 ⟨h.st.mono b,h.left.mono (qi.le c b),fun e=>(h.norm e).mono (zJ _) (qi.le c b)⟩
theorem J3.alike(h:J3 S s ess fl sf N L bd)(k:Alike S S'):J3 S' s ess fl sf N L bd :=
 ⟨h.st.alike k,h.xi.imp (fun h=>⟨h.1.alike k,h.2.alike k⟩) (fun h=>⟨h.1,h.2.alike k⟩)⟩
theorem yc.alike(h:yc U S s ess fl sf N L bd)(k:Alike S S'):yc U S' s ess fl sf N L bd :=
 ⟨h.st.alike k,h.left.alike k,fun e=>(h.norm e).alike k⟩
theorem qo.jaj(h:qo S S'):Alike S S':=⟨h.names,h.files,h.safe,h.late⟩
theorem J3.down(h:J3 S s ess fl sf N L bd):J3 S s ess fl sf N L true:=⟨h.st.down,h.xi.imp id (fun h=>⟨rfl,h.2⟩)⟩
theorem J3.rest(h:J3 S s ess fl sf N L bd):Rest S (qi ess sf (Jn ess fl) N L):=h.xi.elim (fun h=>h.2) (fun h=>h.2.rest)
theorem yc.toN(h:yc 20000 S s ess fl sf N L bd):J3 S s ess fl sf N L bd:=by
 refine⟨h.st,?_⟩
 cases bd with
 | false=>exact .inl ⟨h.norm rfl,h.left.rest⟩
 | true=>exact .inr ⟨rfl,h.left⟩
theorem J3.small(h:J3 S s ess fl sf N L bd)(b:total S.files S.names<=5000):yc 5400 S s ess fl sf N L bd:=by
 refine⟨h.st,?_,fun e=>?_⟩
 ·rcases h.xi with⟨h,_⟩|⟨_,h⟩
  ·exact .inl ((h.reset b).safe.mono (by omega) (Want.Le.refl _))
  ·exact h
 ·rcases h.xi with⟨h,_⟩|⟨c,h⟩
  ·exact h.reset b
  ·rw[e] at c;cases c
theorem J3.opened{n:Nat}(h:Norm S 20000 s (qi (ess.take n) n n N L).whole)(k:n<=ess.length)(j:∀ b∈ess,b.length<=8)(l:ess.length<=L):J3 S s (ess.take n) false n N L false:=by
 have g:(ess.take n).length=n:=by rw[zK];omega
 have c:Jn (ess.take n) false=n:=g;have d:=h.mono (zJ _) (Want.Fc _);have f:=d.bnd (ZI d.pow.total (by omega));have i:Rest S (qi (ess.take n) n n N L):= .inr h.safe;refine⟨⟨fun e=>(by cases e),by rw[c];exact zJ _,fun b f=>j b (zM f),by omega,?_,h.ok,by have:=f.all;omega,h.Q5⟩,.inl ⟨by rw[c];exact d,by rw[c];exact i⟩⟩;rw[c];exact d.now.2
theorem ib.lv(h:ib S s ess fl sf L false):fl=false:=by
 cases fl with
 | false=>rfl
 | true=>exact absurd (h.flb rfl).1 (by decide)
theorem Ge(d:∀ b∈ess,b.length<=8)(c:es.length<=8):∀ b∈ess++[es],b.length<=8:=fun b hb=>by
 rcases ZA.1 hb with t|t
 ·exact d b t
 ·rw[zZ.1 t];exact c
theorem Norm.few(h:Norm S U s Q)(b:U<=20000):s.all.length<20000:=(h.bnd (ZI h.pow.total b)).all
theorem yc.wrote(h:yc 5400 S s ess fl sf N L false)(i:es.length<=8)(b:Norm S' 6000 (s.write es) (qi (ess++[es]) sf (ess.length+1) N (L+1))):yc 20000 S' (s.write es) (ess++[es]) false sf N (L+1) false:=by
 have f:=h.st.lv;subst f;have c:Jn (ess++[es]) false=ess.length+1:=by simp[Jn]
 have d:=h.st.sf;have g:sf<=ess.length:=d;refine⟨⟨fun e=>(by cases e),by rw[c];omega,Ge h.st.small i,by have:=h.st.len;simp;omega,?_,b.ok,by have:=b.few (by omega);omega,b.Q5⟩,?_,fun _=>?_⟩
 ·rw[c];exact b.now.2
 ·rw[c];exact .inl b.safe
 ·rw[c];exact b.mono (by omega) (Want.Le.refl _)
theorem yc.Qd(h:yc 5400 S s ess fl sf N L false)(g:es.length<=8)(P:Pow S' 6000 s.m s.bls (qi (ess++[es]) sf ess.length N (L+1)))(f:Jm S' s):yc 20000 S' s (ess++[es]) true sf N (L+1) true:=by
 have c:=h.st.lv;subst c;have b:Jn (ess++[es]) true=ess.length:=by simp[Jn]
 have i:sf<=ess.length:=h.st.sf;refine⟨⟨fun e=>⟨rfl,by simp⟩,by rw[b];omega,Ge h.st.small g,by have:=h.st.len;simp;omega,?_,h.st.ok,h.st.few,f⟩,?_,fun e=>(by cases e)⟩
 ·have d:=h.st.tell
  rw[b,Bn ess es (zJ _)];exact d
 ·rw[b];exact .inl ⟨_,_,P⟩
theorem Pow.leftOf{m:Rf.Man}{b:List (List Rf.Ch)}(P:Pow S 5400 m b Q):Left S 5400 Q:= .inl ⟨m,b,P.grow (by omega)⟩
theorem yc.synced(h:yc 5400 S s ess fl sf N L false)(f:Norm S' 5400 s (qi ess sf (Jn ess fl) N L).whole)(d:At S' (jh s.m.log) (yw (Rf.jk s.m.last s.bs))):yc 20000 S' s ess fl ess.length N L false:=by
 have c:=h.st.lv;subst c;have b:Norm S' 5400 s (qi ess ess.length ess.length N L):=(f.mono (zJ _) (Want.Fc _)).jgv d (zJ _);exact⟨⟨fun e=>(by cases e),zJ _,h.st.small,h.st.len,h.st.tell,h.st.ok,h.st.few,b.Q5⟩,b.pow.leftOf,fun _=>b.mono (by omega) (Want.Le.refl _)⟩
theorem yc.jco(h:yc 5400 S s ess fl sf N L false)(P:Pow S' 5400 s.m s.bls (qi ess sf (Jn ess fl) N L))(b:Jm S' s):yc 20000 S' s ess fl sf N L true :=
 ⟨⟨fun e=>⟨rfl,(h.st.flb e).2⟩,h.st.sf,h.st.small,h.st.len,h.st.tell,h.st.ok,h.st.few,b⟩,P.leftOf,fun e=>(by cases e)⟩
theorem yc.yh(h:yc 5400 S s ess fl sf N L false)(j:Bi S' 5400 s' (qi ess sf (Jn ess fl) N' L))(g:At S' (jh s'.m.log) (yw (Rf.jk s'.m.last s'.bs))):yc 20000 S' s' ess fl ess.length N' L false:=by
 have f:=h.st.lv;subst f;have k:=j.norm;have b:=k.now;have c:(qi ess ess.length ess.length N' L).now s':=qi.now b.1.1 b.1.2.1 (zJ _) (zJ _) b.2
 have i:Bi S' 5400 s' (qi ess ess.length ess.length N' L):=by
  rcases j with h|h
  ·exact .inl (h.again g c)
  ·exact .inr (h.again g c)
 have d:=i.norm;exact⟨⟨fun e=>(by cases e),zJ _,h.st.small,h.st.len,b.2,d.ok,by have:=d.few (by omega);omega,d.Q5⟩,i.left,fun _=>d.mono (by omega) (Want.Le.refl _)⟩
theorem yc.Xm(h:yc 5400 S s ess fl sf N L false)(c:Bi S' 5400 s' (qi ess sf (Jn ess fl) N' L)):yc 20000 S' s' ess fl sf N' L false:=by
 have b:=c.norm;exact⟨⟨h.st.flb,h.st.sf,h.st.small,h.st.len,b.now.2,b.ok,by have:=b.few (by omega);omega,b.Q5⟩,c.left,fun _=>b.mono (by omega) (Want.Le.refl _)⟩
theorem yc.jht(h:yc 5400 S s ess fl sf N L false)(l:N'+2<=2000000000)(f:s'=s\/s'=s.flush\/s'=s.j8)(i:Left S' 5400 (qi ess sf (Jn ess fl) N' L))(g:Jm S' s')(j:N<=N'):yc 20000 S' s' ess fl sf N' L true:=by
 have c:=h.norm rfl;have b:=c.bnd (ZI c.pow.total (by omega));have d:s.m.next+2<=2000000000:=by have:=c.now.1.1;omega
 have key:s'.tell=s.tell/\s'.Ok/\s'.all.length<60000:=by
  rcases f with rfl|rfl|rfl
  ·exact⟨rfl,h.st.ok,h.st.few⟩
  ·refine⟨Rf.St.vg s,h.st.ok.flush (by have:=b.mem;omega) d (fc h.st.ok) (by have:=b.runs;omega),?_⟩
   rw[Rf.St.Mu];exact h.st.few
  ·refine⟨Rf.St.lx h.st.ok,h.st.ok.j8 (by have:=b.live;omega) (by omega),?_⟩
   by_cases hc:s.m.runs=[]
   ·rw[mx hc];exact h.st.few
   ·have p:s.j8.all.length<=Zt (s.j8.mem::s.j8.bls):=vn _
    have o:Zt (s.j8.mem::s.j8.bls)=s.j8.mem.length+Zt s.j8.bls:=by simp[Zt]
    have n:s.j8.mem.length=s.mem.length:=by rw[(my hc).2]
    have k:Zt s.j8.bls<=s.live.length:=by
     unfold Rf.St.j8;rw[if_neg hc]
     split
     ·simp[Zt]
     ·simp[Zt]
    have:=b.mem;have:=b.live;omega
 exact⟨⟨fun e=>⟨rfl,(h.st.flb e).2⟩,h.st.sf,h.st.small,h.st.len,by rw[key.1];exact h.st.tell,key.2.1,key.2.2,g⟩,i,fun e=>(by cases e)⟩
end Go.Proofs.YtnipbplghijdmaaGreatDoor
namespace Go.Proofs.YtnipbplghijdmaaGreatDoor
open RowKit Maps WideShapes Go.Proofs.Tryz
variable {E:Nat->Addr} {B:Nat} {w w':World} {d b k U V:Nat} {S S':jc} {s:Rf.St} {deg:Bool} {F:Nat->Prop}
theorem Cr(O:Qu E B w d b S k s true F){kb C:Nat}{wv:Value}{I J:Bool}(f:w.heap[kb]?=some (.cells (zn d b wv I C J) 51 (0,0))) :
 Calls prog 38 #[.pointer (some ⟨kb,0,none⟩)] w fun e w'=>e = .returned (.bool true)/\ja w w' (fun _=>False):=by
 have g:∀ W,ja w W (fun _=>False)->Calls prog 78 #[.pointer (some ⟨d,0,none⟩)] W fun e w'=>e = .returned (.tuple #[.int .i64 S.calls,.int .i64 S.wrote])/\ja W w' (fun _=>False):=fun W kk=>by
  obtain⟨ρ,D,_⟩:=(O.same kk).xi;exact jb6 D.rep
 have A:=jb g;have q:=jb O;have v:=jb f;have u:=zA (o:=0) f;simp at u;clear g O f;go_enter func38,ntmps38;go_wp2_with fail;refine(A.out w (ja.refl _ _)).mono ?_;rintro e t ⟨rfl,z⟩;have j:=zA (o:=1) (z.same v.out id);simp at j;have x:∀ o,(t.alloc o).cell? ⟨kb,1,none⟩=some (.pointer (some ⟨b,0,none⟩)):=fun o=>(ja.alloc t o (fun _=>False)).cell j id;clear u;have y:=fun o=>z.tt (ja.alloc t o (fun _=>False));go_wp2_with fail;refine(Ub (q.out.same (y _)) _ _ _).mono ?_;rintro e r ⟨rfl,rfl⟩;obtain⟨r,m⟩:∃ r,r=t.alloc (.cells #[.string ⟨#[120]⟩,.string ⟨#[121]⟩,.bool false] 88):=⟨_,rfl⟩;have i:ja w r (fun _=>False):=by rw[m];exact y _
 rw[<-m];clear m x j;have j:=zA (o:=1) (i.same v.out id);have u:=zA (o:=0) (i.same v.out id);simp at j u;go_wp2_with fail;refine(jaz (q.out.same i)).mono ?_;rintro e Y ⟨rfl,rfl⟩;go_wp2_with fail;refine(Vq (q.out.same i)).mono ?_;rintro e X ⟨rfl,rfl⟩;go_wp2_with fail;refine(Ov (q.out.same i)).mono ?_;rintro e V ⟨rfl,rfl⟩;go_wp2_with fail;refine(A.out _ i).mono ?_;rintro e U ⟨rfl,H⟩;have l:=i.tt H;have j:=zA (o:=1) (l.same v.out id);simp at j;go_wp2_with fail;refine(jbj (q.out.same l)).mono ?_;rintro e T ⟨R,N,M,L,p,n,c,rfl,G⟩;have Z:∀ W,Sem.run prog (Instr.field 61 (Value.agg #[j6 R,j6 N,j6 M,j6 L,Value.slice p n c,Value.bool true,Value.bool false]) 5) W = .ok (.bool true) W:=fun W=>rfl;go_wp2;go_ret;exact⟨rfl,l.tt G⟩
end Go.Proofs.YtnipbplghijdmaaGreatDoor
namespace Go.Proofs.YtnipbplghijdmaaGreatDoor
open RowKit Maps WideShapes Go.Proofs.Tryz
variable {E:Nat->Addr} {B:Nat} {w w' w0 wz:World} {d b k kb U V N L:Nat} {S S':jc} {s:Rf.St} {deg:Bool} {F T:Nat->Prop} {Q R:Want} {m:Rf.Man} {bls:List (List Rf.Ch)} {ρ:Nat->j3} {ess:List (List Rf.Ch)} {wv:Value} {fl bd:Bool} {sf lv:Nat}
structure BkD(E:Nat->Addr)(B:Nat)(w0:World)(kb d b:Nat)(S:jc)(s:Rf.St)(wv:Value)(ess:List (List Rf.Ch))(fl:Bool)(sf:Nat)(bd deg:Bool)(F:Nat->Prop)(w:World):Prop where
 row:w.heap[kb]?=some (.cells (zn d b wv fl sf bd) 51 (0,0))
 own:Qu E B w d b S 160000 s deg F
 wr:Wr w0 w (fun i=>F i\/i=kb) wv ess
 nkb:¬F kb/\w0.heap.size<=kb
 new:∀ i,F i->w0.heap.size<=i
 base:B<=w0.heap.size
theorem Bk.toD(h:Bk E B w0 kb d b S s wv ess fl sf bd F w):BkD E B w0 kb d b S s wv ess fl sf bd bd F w:=⟨h.row,h.own,h.wr,h.nkb,h.new,h.base⟩
theorem BkD.Bl(h:BkD E B w0 kb d b S s wv ess fl sf bd bd F w):Bk E B w0 kb d b S s wv ess fl sf bd F w:=⟨h.row,h.own,h.wr,h.nkb,h.new,h.base⟩
theorem Bk.km{S':jc}{s':Rf.St}{c:Bool}{k':Nat}(h:Bk E B w0 kb d b S s wv ess fl sf bd F w)(f:qg E B w d b S' k' s' c F w')(g:k'<=160000) :
 ∃ F',BkD E B w0 kb d b S' s' wv ess fl sf bd c F' w'/\yu w F w' F':=by
 obtain⟨F',n,m,l,k,j,i⟩:=h.step (b':=b) f g;exact⟨F',⟨n,m,l,⟨k,h.nkb.2⟩,j,h.base⟩,i⟩
theorem BkD.mark{f g:Bool}{c:Nat}(h:BkD E B w0 kb d b S s wv ess fl sf bd deg F w)(k:ja w w' (fun i=>i=kb))(j:w'.heap[kb]?=some (.cells (zn d b wv f c g) 51 (0,0))):BkD E B w0 kb d b S s wv ess f c g deg F w':=by
 refine⟨j,h.own.keep k (fun i _ e=>?_),h.wr.step k (fun i t=> .inr t) (fun i t=> .inl t),h.nkb,h.new,h.base⟩;have l:i=kb:=e;rw[l];exact⟨ZI h.base h.nkb.2,h.nkb.1⟩
theorem BkD.lt(h:BkD E B w0 kb d b S s wv ess fl sf bd deg F w){i:Nat}(c:F i\/i=kb):i<w.heap.size:=by
 rcases c with t|t
 ·exact(h.own.old t).2
 ·rw[t];exact zC h.row
theorem BkD.note(h:BkD E B w0 kb d b S s wv ess fl sf bd deg F w){x v':Value}{r:List Rf.Ch}{xs:List Value}{c:World}(k:w.ownsRow w0.heap.size 38 1 wv ess.length xs)(o:∀ i (h:i<ess.length),∃ y,xs[i]?=some y/\El w (fun i=>F i\/i=kb) y ess[i]/\∀ g,wv.ownBlock=some g->y.ownBlock≠some g)(v:El w (fun i=>F i\/i=kb) x r)(n:∀ g,wv.ownBlock=some g->x.ownBlock≠some g)(l:ja w c (fun j=>wv.ownBlock=some j))(z:c.ownsRow w0.heap.size 38 1 v' (ess.length+1) (xs++[x]))(q:∀ g,v'.ownBlock=some g->wv.ownBlock=some g\/w.heap.size<=g) :
 BkD E B w0 kb d b S s v' (ess++[r]) fl sf bd deg F (c.setCell ⟨kb,2,none⟩ v')/\yu w (bkG F kb wv) (c.setCell ⟨kb,2,none⟩ v') (bkG F kb v'):=by
 have m:=ja.setCell c ⟨kb,2,none⟩ v';have u:=h.wr.snoc k v n (fun i t=>h.lt t) l z q o;have p:∀ g,wv.ownBlock=some g->¬(F g\/g=kb):=h.wr.nv;have C:=l.same h.row (fun e=>p kb e (.inr rfl));refine⟨⟨(jd C _).trans rfl,(h.own.keep l (fun j _ e=>⟨by have:=(k.lt j e).1;have:=h.base;omega,fun f=>p j e (.inl f)⟩)).keep m (fun j _ e=>?_),u.step m (fun i e=> .inr e) (fun _ t=> .inl t),h.nkb,h.new,h.base⟩,?_,?_⟩
 ·have A:j=kb:=e
  rw[A];exact⟨ZI h.base h.nkb.2,h.nkb.1⟩
 ·exact(l.mono (fun _ _ e=> .inr (.inr e))).trans m (fun _ _ e=> .inr (.inl e))
 ·intro i t
  rcases t with t|t|t
  ·exact .inl (.inl t)
  ·exact .inl (.inr (.inl t))
  ·rcases q i t with t|t
   ·exact .inl (.inr (.inr t))
   ·exact .inr t
def fx(E:Nat->Addr)(B:Nat)(w0 w:World)(kb d b:Nat)(F:Nat->Prop)(wv:Value)(S:jc)(N L:Nat)(w':World):Prop :=
 ∃ S' s' wv' ess' fl' sf' bd' F',Bk E B w0 kb d b S' s' wv' ess' fl' sf' bd' F' w'/\yc 20000 S' s' ess' fl' sf' (N+2) (L+1) bd'/\Cl S S'/\yu w (bkG F kb wv) w' (bkG F' kb wv')
theorem sl(h:Bk E B w0 kb d b S s wv ess fl sf bd F w)(a:Q8):∃ W1 bx,Hid (W1=w.alloc (.cells a.row 73))/\Hid (bx=w.heap.size)/\Hid (ja w W1 (fun _=>False))/\Hid (Bk E B w0 kb d b S s wv ess fl sf bd F W1)/\W1.cell? ⟨kb,5,none⟩=some (.bool bd)/\W1.cell? ⟨kb,1,none⟩=some (.pointer (some ⟨b,0,none⟩))/\W1.cell? ⟨bx,0,none⟩=some (.int .i64 a.kd)/\W1.cell? ⟨bx,3,none⟩=some a.kv:=by
 refine⟨_,_,rfl,rfl,?_,?_,?_⟩
 ·exact ja.alloc _ _ _
 ·exact h.same (ja.alloc _ _ _)
 ·have f:=(h.same (ja.alloc w (.cells a.row 73) _)).row
  have c:=je w (.cells a.row 73);have g:=zA (o:=5) f;have i:=zA (o:=1) f;simp at g i;exact⟨g,i,(zA (o:=0) c).trans rfl,(zA (o:=3) c).trans rfl⟩
theorem Q1(w:World)(kb o:Nat)(v:Value):ja w (w.setCell ⟨kb,o,none⟩ v) (fun i=>i=kb):=ja.setCell w ⟨kb,o,none⟩ v
theorem Qy{w c b:World}{G:Nat->Prop}{d:Nat->Prop}{v:Value}(h:yu w G c (bkG d kb v))(k:ja c b (fun i=>i=kb)):yu w G b (bkG d kb v):=h.trans ⟨k.mono (fun _ _ e=> .inr (.inl e)),fun _ t=> .inl t⟩
theorem jb9(h:Bk E B w0 kb d b S s wv ess fl sf true F w)(k:yc 5400 S s ess fl sf N L true)(a:Q8) :
 Calls prog 36 #[.pointer (some ⟨kb,0,none⟩),.agg a.row] w fun e w'=>e = .returned (.bool true)/\fx E B w0 w kb d b F wv S N L w':=by
 obtain⟨v,u,g,r,j,c,t,p,o,n⟩:=sl h a;have i:=jb (Cr c.out.own c.out.row);have l:=jb k;clear h k p o n;go_enter func36,ntmps36
 go_upto_region 1 with fail
 rw[<-g.out];go_wp2_with fail;refine i.out.mono ?_;rintro e m ⟨rfl,f⟩;have q:Hid (fx E B w0 w kb d b F wv S N L m):=(show _ from⟨S,s,wv,ess,fl,sf,true,F,c.out.same f,(show yc 20000 S s ess fl sf N L true from⟨l.out.st,l.out.left,fun e=>(by cases e)⟩).mono (by omega) (by omega),Cl.refl _,(yu.refl _ _).same (j.out.tt f)⟩);clear f;go_wp2;go_ret;exact⟨rfl,q.out⟩
theorem jb8(h:Bk E B w0 kb d b S s wv ess fl sf false F w)(T:yc 5400 S s ess fl sf N L false)(hv:total S.files S.names<=5000)(hN:N+2<=2000000000)(hL:L<131072)(a:Q8)(r:I64 a.kd){P:Nat}(hP:Q9 a.kd 8=P)(ae:P=4) :
 Calls prog 36 #[.pointer (some ⟨kb,0,none⟩),.agg a.row] w fun e w'=>e = .returned (.bool true)/\fx E B w0 w kb d b F wv S N L w':=by
 obtain⟨W1,bx,Y,a1,O,y,J,c1,o0,o3⟩:=sl h a;have V:=T.norm rfl
 have Z:Hid (∀ W,Calls prog 25 #[.int .i64 a.kd,.int .i64 8] W fun e w'=>e = .returned (.int .i64 P)/\w'=W):=fun W=>by
  have:=Xu a.kd r.1 r.2 8 (by decide) (by decide) W;rwa [hP] at this
 have z:=jb (jgl (y.out.own.fit (V.fit (by omega))) V (by omega));have HU:=jb T;have e4:((P:Int)==4)=true:=by simp;omega
 have e0:((P:Int)==0)=false/\((P:Int)==1)=false/\((P:Int)==2)=false/\((P:Int)==3)=false:=by simp;omega
 obtain⟨e0,e1,e2,e3⟩:=e0;clear h T o3 hv V hN r hP;go_enter func36,ntmps36
 go_upto_region 1 with fail
 rw[<-Y.out,<-a1.out];go_wp2_with fail;refine(Z.out _).mono ?_;rintro e ad ⟨rfl,rfl⟩;go_wp2_with fail;refine z.out.mono ?_;clear J c1 o0;rintro e R (⟨rfl,M,I,D,C,H⟩|⟨rfl,M,I,D,C,H⟩)
 ·obtain⟨X,i,k⟩:=y.out.km I (by omega)
  obtain⟨l,g⟩:∃ l,l=s:=⟨_,rfl⟩;rw[<-g] at i;have j:=jb i;have t:Hid (yc 20000 M l ess fl ess.length (N+2) (L+1) false):=(show _ from by rw[g];exact(HU.out.synced D C).mono (by omega) (by omega));have x:=jb H;have v:=jb (yu.after O.out (k.bk (kb:=kb) (wv:=wv)));clear I D C H i k g;have f:=j.out.row;have J:=zA (o:=5) f;have f5:=zB (o:=5) f;obtain⟨pw,cw,m⟩:∃ p c,wv = .slice p ess.length c:=by obtain⟨⟨xs,h1,_⟩,_⟩:=j.out.wr;exact jl h1
  have U:=zA (o:=2) f;have c4:=zA (o:=4) f;have f4:=zB (o:=4) f;simp at J U c4;rw[m] at U;have af:=jb m;obtain⟨A,q⟩:∃ A,A=ess.length:=⟨_,rfl⟩;rw[<-q] at U;have a0:=jb q;clear m q;have u:=jb f;clear f;go_wp2;go_ret;have G:=Z6 R kb 4 5 (.int .i64 A) (.bool false);have n:((R.setCell ⟨kb,4,none⟩ (.int .i64 A)).setCell ⟨kb,5,none⟩ (.bool false)).heap[kb]?=some (.cells (zn d b wv fl A false) 51 (0,0)):=(jd ((jd u.out _).trans rfl) _).trans rfl;refine⟨rfl,M,l,wv,ess,fl,A,false,X,(j.out.mark G n).Bl,?_,x.out,Qy v.out G⟩;rw[a0.out];exact t.out
 ·obtain⟨X,i,k⟩:=y.out.km I (by omega)
  obtain⟨l,g⟩:∃ l,l=s:=⟨_,rfl⟩;rw[<-g] at i;have j:=jb i;have t:Hid (yc 20000 M l ess fl sf (N+2) (L+1) true):=(show _ from by rw[g];exact(HU.out.jco D C).mono (by omega) (by omega));have x:=jb H;have v:=jb (yu.after O.out (k.bk (kb:=kb) (wv:=wv)));clear I D C H i k g;have f:=j.out.row;have J:=zA (o:=5) f;have f5:=zB (o:=5) f;simp at J;have u:=jb f;clear f;go_wp2;go_ret;have G:=Q1 R kb 5 (.bool true);have n:(R.setCell ⟨kb,5,none⟩ (.bool true)).heap[kb]?=some (.cells (zn d b wv fl sf true) 51 (0,0)):=(jd u.out _).trans rfl;exact⟨rfl,M,l,wv,ess,fl,sf,true,X,(j.out.mark G n).Bl,t.out,x.out,Qy v.out G⟩
theorem Wc(h:Bk E B w0 kb d b S s wv ess fl sf false F w)(V:yc 5400 S s ess fl sf N L false)(hv:total S.files S.names<=5000)(R:N+2+2<=2000000000)(hL:L<131072)(a:Q8)(r:I64 a.kd){P:Nat}(hP:Q9 a.kd 8=P)(ag:P=5) :
 Calls prog 36 #[.pointer (some ⟨kb,0,none⟩),.agg a.row] w fun e w'=>e = .returned (.bool true)/\fx E B w0 w kb d b F wv S N L w':=by
 obtain⟨W1,bx,Z,a2,T,y,J,c1,o0,o3⟩:=sl h a;have O:=V.norm rfl
 have a0:Hid (∀ W,Calls prog 25 #[.int .i64 a.kd,.int .i64 8] W fun e w'=>e = .returned (.int .i64 P)/\w'=W):=fun W=>by
  have:=Xu a.kd r.1 r.2 8 (by decide) (by decide) W;rwa [hP] at this
 have z:=jb (jan (y.out.own.fit (O.fit (by omega))) (O.mono (zJ _) (qi.le (N':=N+2) (by omega) (zJ _))) (by omega) hv (by have:=O.now.1.1;omega) (qi.flush O.now));have HU:=jb V;have HN:Hid (N+2+2<=2000000000):=R;have e4:((P:Int)==4)=false/\((P:Int)==5)=true:=by simp;omega
 have e0:((P:Int)==0)=false/\((P:Int)==1)=false/\((P:Int)==2)=false/\((P:Int)==3)=false:=by simp;omega
 obtain⟨e0,e1,e2,e3⟩:=e0;obtain⟨e4,e5⟩:=e4;clear h V o3 hv O R r hP;go_enter func36,ntmps36
 go_upto_region 1 with fail
 rw[<-Z.out,<-a2.out];go_wp2_with fail;refine(a0.out _).mono ?_;rintro e af ⟨rfl,rfl⟩;go_wp2_with fail;refine z.out.mono ?_;clear J c1 o0;rintro e U (⟨rfl,M,I,D,C,H⟩|⟨rfl,M,l,I,j,D,C,H⟩)
 ·obtain⟨Y,g,k⟩:=y.out.km I (by omega)
  obtain⟨l,j⟩:∃ l,l=s.flush:=⟨_,rfl⟩;rw[<-j] at g D C;have i:=jb g;have t:Hid (yc 20000 M l ess fl ess.length (N+2) (L+1) false):=(show _ from(HU.out.yh D C).mono (zJ _) (by omega));have x:=jb H.1;have v:=jb (yu.after T.out (k.bk (kb:=kb) (wv:=wv)));clear I D C H g k j;have f:=i.out.row;have J:=zA (o:=5) f;have f5:=zB (o:=5) f;obtain⟨pw,cw,m⟩:∃ p c,wv = .slice p ess.length c:=by obtain⟨⟨xs,h1,_⟩,_⟩:=i.out.wr;exact jl h1
  have X:=zA (o:=2) f;have c4:=zA (o:=4) f;have f4:=zB (o:=4) f;simp at J X c4;rw[m] at X;have ah:=jb m;obtain⟨A,q⟩:∃ A,A=ess.length:=⟨_,rfl⟩;rw[<-q] at X;have a1:=jb q;clear m q;have u:=jb f;clear f;go_wp2;go_ret;have G:=Z6 U kb 4 5 (.int .i64 A) (.bool false);have n:((U.setCell ⟨kb,4,none⟩ (.int .i64 A)).setCell ⟨kb,5,none⟩ (.bool false)).heap[kb]?=some (.cells (zn d b wv fl A false) 51 (0,0)):=(jd ((jd u.out _).trans rfl) _).trans rfl;refine⟨rfl,M,l,wv,ess,fl,A,false,Y,(i.out.mark G n).Bl,?_,x.out,Qy v.out G⟩;rw[a1.out];exact t.out
 ·obtain⟨Y,g,k⟩:=y.out.km I (by omega)
  have i:=jb g;have t:Hid (yc 20000 M l ess fl sf (N+2) (L+1) true):=(show _ from(HU.out.jht HN.out (j.imp id .inl) D C (by omega)).mono (zJ _) (by omega));have x:=jb H.1;have v:=jb (yu.after T.out (k.bk (kb:=kb) (wv:=wv)));clear I D C H g k j;have f:=i.out.row;have J:=zA (o:=5) f;have f5:=zB (o:=5) f;simp at J;have u:=jb f;clear f;go_wp2;go_ret;have G:=Q1 U kb 5 (.bool true);have n:(U.setCell ⟨kb,5,none⟩ (.bool true)).heap[kb]?=some (.cells (zn d b wv fl sf true) 51 (0,0)):=(jd u.out _).trans rfl;exact⟨rfl,M,l,wv,ess,fl,sf,true,Y,(i.out.mark G n).Bl,t.out,x.out,Qy v.out G⟩
theorem Pa(h:Bk E B w0 kb d b S s wv ess fl sf false F w)(J:yc 5400 S s ess fl sf N L false)(V:total S.files S.names<=5000)(G:N+2+2<=2000000000)(hL:L<131072)(a:Q8)(m:I64 a.kd){P:Nat}(X:Q9 a.kd 8=P)(a7:6<=P) :
 Calls prog 36 #[.pointer (some ⟨kb,0,none⟩),.agg a.row] w fun e w'=>e = .returned (.bool true)/\fx E B w0 w kb d b F wv S N L w':=by
 obtain⟨W1,bx,O,T,H,t,C,c1,o0,o3⟩:=sl h a;have x:=J.norm rfl
 have R:Hid (∀ W,Calls prog 25 #[.int .i64 a.kd,.int .i64 8] W fun e w'=>e = .returned (.int .i64 P)/\w'=W):=fun W=>by
  have:=Xu a.kd m.1 m.2 8 (by decide) (by decide) W;rwa [X] at this
 have u:=jb (Mo (t.out.own.fit (x.fit (by omega))) (x.mono (zJ _) (qi.le (N':=N+2) (by omega) (zJ _))) (by omega) V (by have:=x.now.1.1;omega) (qi.j8 x.ok x.now));have HU:=jb J;have HN:Hid (N+2+2<=2000000000):=G;have Y:((P:Int)==4)=false/\((P:Int)==5)=false:=by simp;omega
 have Z:((P:Int)==0)=false/\((P:Int)==1)=false/\((P:Int)==2)=false/\((P:Int)==3)=false:=by simp;omega
 obtain⟨Z,e1,e2,e3⟩:=Z;obtain⟨Y,e5⟩:=Y;clear h J o3 V x G m X;go_enter func36,ntmps36
 go_upto_region 1 with fail
 rw[<-O.out,<-T.out];go_wp2_with fail;refine(R.out _).mono ?_;rintro e a6 ⟨rfl,rfl⟩;go_wp2_with fail;refine u.out.mono ?_;clear C c1 o0;rintro e I (⟨rfl,D,A,v,z⟩|⟨rfl,D,k,A,g,v,U,z⟩)
 ·obtain⟨M,f,i⟩:=t.out.km A (by omega)
  obtain⟨k,g⟩:∃ k,k=s.j8:=⟨_,rfl⟩;rw[<-g] at f v;have j:=jb f;have n:Hid (yc 20000 D k ess fl sf (N+2) (L+1) false):=(show _ from(HU.out.Xm v).mono (zJ _) (by omega));have r:=jb z.1;have q:=jb (yu.after H.out (i.bk (kb:=kb) (wv:=wv)));clear A v z f i g;have c:=j.out.row;have C:=zA (o:=5) c;have f5:=zB (o:=5) c;simp at C;have p:=jb c;clear c;go_wp2;go_ret;have y:=Q1 I kb 5 (.bool false);have l:(I.setCell ⟨kb,5,none⟩ (.bool false)).heap[kb]?=some (.cells (zn d b wv fl sf false) 51 (0,0)):=(jd p.out _).trans rfl;exact⟨rfl,D,k,wv,ess,fl,sf,false,M,(j.out.mark y l).Bl,n.out,r.out,Qy q.out y⟩
 ·obtain⟨M,f,i⟩:=t.out.km A (by omega)
  have j:=jb f;have n:Hid (yc 20000 D k ess fl sf (N+2) (L+1) true):=(show _ from(HU.out.jht HN.out (g.imp id .inr) v U (by omega)).mono (zJ _) (by omega));have r:=jb z.1;have q:=jb (yu.after H.out (i.bk (kb:=kb) (wv:=wv)));clear A v U z f i g;have c:=j.out.row;have C:=zA (o:=5) c;have f5:=zB (o:=5) c;simp at C;have p:=jb c;clear c;go_wp2;go_ret;have y:=Q1 I kb 5 (.bool true);have l:(I.setCell ⟨kb,5,none⟩ (.bool true)).heap[kb]?=some (.cells (zn d b wv fl sf true) 51 (0,0)):=(jd p.out _).trans rfl;exact⟨rfl,D,k,wv,ess,fl,sf,true,M,(j.out.mark y l).Bl,n.out,r.out,Qy q.out y⟩
end Go.Proofs.YtnipbplghijdmaaGreatDoor
namespace Go.Proofs.YtnipbplghijdmaaGreatDoor
open RowKit Maps WideShapes Go.Proofs.Tryz
variable {E:Nat->Addr} {B:Nat} {w w' w0 wz:World} {d b k kb U V N L:Nat} {S S':jc} {s:Rf.St} {deg:Bool} {F T:Nat->Prop} {Q R:Want} {m:Rf.Man} {bls:List (List Rf.Ch)} {ρ:Nat->j3} {ess:List (List Rf.Ch)} {wv:Value} {fl bd:Bool} {sf lv:Nat}
theorem Wb(h:Bk E B w0 kb d b S s wv ess fl sf false F w)(hU:yc 5400 S s ess fl sf N L false)(hv:total S.files S.names<=5000)(hL:L<131072)(a:Q8)(ay:I64 a.kd)(hz:Zs w a.kv a.keys){P:Nat}(hP:Q9 a.kd 8=P)(cd:P<4) :
 Calls prog 36 #[.pointer (some ⟨kb,0,none⟩),.agg a.row] w fun e w'=>e = .returned (.bool true)/\fx E B w0 w kb d b F wv S N L w':=by
 obtain⟨j0,hj,bl,bj,bi⟩:=info_parts Tryz.jfw;obtain⟨W1,bx,ce,ch,bs,a9,c5,c1,o0,o3⟩:=sl h a;have N0:=hU.norm rfl;have cc:=hU.st.lv;subst cc
 have br:Hid (∀ W,Calls prog 25 #[.int .i64 a.kd,.int .i64 8] W fun e w'=>e = .returned (.int .i64 P)/\w'=W):=fun W=>by
  have:=Xu a.kd ay.1 ay.2 8 (by decide) (by decide) W;rwa [hP] at this
 obtain⟨pw,cw,rfl⟩:=a9.out.slice;have bw:ess.length<=L:=hU.st.len;obtain⟨y,f⟩:∃ y,y=ess.length:=⟨_,rfl⟩;have c2:=zA (o:=2) a9.out.row;simp at c2;rw[<-f] at c2 bw;have bz:=jb (jcc c2 (by omega) a.kv a.keys (hz.same bs.out));have cf:=jb f;have HU:=jb hU;have cg:=jb N0;have HV:=jb hv;clear h hU hv N0 ay hP hz c2 f;go_enter func36,ntmps36
 go_upto_region 1 with fail
 rw[<-ce.out,<-ch.out];go_wp2_with fail;refine(br.out _).mono ?_;rintro e cz ⟨rfl,rfl⟩;rcases(by omega:P=0\/P=1\/P=2\/P=3)with hP|hP|hP|hP
 all_goals subst hP
 all_goals clear br cd
 all_goals
  go_wp2_with fail;refine bz.out.mono ?_;rintro e w3 ⟨v3,Y,rfl,a3,h1,h8,bn,k3⟩;obtain⟨z,A,rfl⟩:=jl a3;have aw:=Ui h1 h8 bn;have B3:=a9.out.same k3
  have X:El w3 (fun i=>F i\/i=kb) (.slice z Y.length A) Y:=⟨Je a3,fun g hg=>⟨fun t=>by
   have h2:=(a3.lt g hg).1
   have h3:=a9.out.toD.lt t
   omega,(a3.lt g hg).2⟩⟩
  have aa:∀ g,(Value.slice pw ess.length cw).ownBlock=some g->(Value.slice z Y.length A).ownBlock≠some g:=fun g hg e=>by
   have h2:=(a3.lt g e).1;have h3:=(a9.out.lt (.inr (.inr hg))).2;omega
  have N0:=cg.out;have av:sf<=ess.length:=HU.out.st.sf;have bm:qu s.files<=5000:=ZI N0.qu HV.out;have bp:=jb (Ws (U:=5400) (R:=qi (ess++[Y]) sf (ess.length+1) N (L+1)) (R':=qi (ess++[Y]) sf ess.length N (L+1)) (B3.own.fit (N0.fit (by omega))) N0 (by omega) (by have:=HV.out;omega) (.slice z Y.length A) Y aw.1 X.1 (fun p n c e t=>(X.2 p.block (by rw[e];rfl)).1 (.inl t)) (by have:=N0.now.1.2.1;omega) (fun t ht=>qi.snoc ht _) (qi.write N0.now Y av) (fun t ht=>qi.snoc ht _) (qi.Lu N0.now Y av) (fun l hl=>tg (s:=s.write Y) (Fj bm aw.1) hl) (fun l hl=>tg (s:=s) (by omega) hl));have q1:=zA (o:=1) B3.row;simp at q1;obtain⟨H,bo⟩:∃ H,H=Y.length:=⟨_,rfl⟩;rw[<-bo] at bp X aa ⊢;have bv:=jb B3;have bu:=jb X;have bq:=jb aa;have bt:=jb h8;have aj:=jb (bs.out.tt k3);clear aw N0 bo a3 h1 h8 bn c5 c1 o0 o3 B3 X aa k3 bm av;go_wp2_with fail;refine bp.out.mono ?_;clear q1;have f:=cf.out;rintro e x (⟨rfl,S4,h4,n1,hc⟩|⟨rfl,S4,h4,n1,n2,hc⟩)
  ·obtain⟨F4,m,G⟩:=bv.out.km h4 (by omega)
   have V:El x (fun i=>F4 i\/i=kb) (.slice z H A) Y:=bu.out.step G.1 (fun i t=> .inl t) (fun i t=>by
    rcases t with t|t
    ·exact(G.2 i t).imp .inl id
    ·exact .inl (.inr t))
   obtain⟨au,q,T⟩:=m.wr.row;have D:=m.row;have z2:=zA (o:=2) D;simp at z2;have O:∀ g,(Value.slice pw ess.length cw).ownBlock=some g->¬(F4 g\/g=kb):=m.wr.nv;have a7:w0.heap.size<=x.heap.size:=by have:=m.nkb.2;have:=zC D;omega
   have ae:=jb f;have ar:x.cell? ⟨kb,2,none⟩=some (.slice pw y cw):=by rw[f];exact z2
   have r:x.ownsRow w0.heap.size 38 1 (.slice pw y cw) y au:=by rw[f];exact q
   have ad:=jb O;have b3:=jb D;have b9:=jb m;have b6:=jb V;have ab:=jb q;have af:=jb T;have b5:=jb G;have b7:=jb hc.1;have ac:Hid (yc 20000 S4 (s.write Y) (ess++[Y]) false sf (N+2) (L+1) false):=(show _ from(HU.out.wrote bt.out n1).mono (by omega) (zJ _));have b0:Hid (y+1<=maxLen):=jb (by unfold maxLen;omega);have az:Hid ((y+1)*24<=140737488355328):=jb (by omega);have v:=r.alloc (.cells #[.slice z H A] 38);have J:w0.heap.size<=(x.alloc (.cells #[.slice z H A] 38)).heap.size:=ZI a7 (ja.alloc x _ (fun _=>False)).size;have M:∀ u∈[Value.slice z H A],u.oneCell'=true:=fun u hu=>by rw[zZ.1 hu];rfl
   have a8:Hid (∀ W6,(x.alloc (.cells #[.slice z H A] 38)).grownBy W6 (Value.slice pw y cw).ownBlock->W6.cell? ⟨kb,2,none⟩=some (.slice pw ess.length cw)/\W6.frozen? ⟨kb,2,none⟩=false):=fun W6 hg=>by
    have hk:=(ja.grown hg).same ((ja.alloc x (.cells #[.slice z H A] 38) (fun _=>False)).same b3.out id) (fun e=>ad.out kb (jad e.symm) (.inr rfl));have hc:=zA (o:=2) hk;exact⟨by simpa using hc,zB hk⟩
   clear h4 m V q T O D G hc n1 z2 f r a7
   go_upto_region 15 with(first|(at_builtin;refine jy _ rfl (.tmp 48) (.tmp 50) 27 rfl w0.heap.size 38 j0 (.slice none 0 0) 1 24 underlying27 hj bl bj bi rfl ZJ _ _ _ rfl v ⟨x.heap.size,0,none⟩ 1 1 [.slice z H A] rfl rfl (cell_one_new _ _ _) M b0.out az.out J ?_;intro p6 c6 w6 a5 a0 a6;obtain⟨r2,r3⟩:=a8.out w6 a0))
   have kA:=ja.alloc x (.cells #[.slice z H A] 38) (fun _=>False);have f:=ae.out
   have Z:=b9.out.note ab.out af.out b6.out (fun g hg=>bq.out g hg) ((kA.up).trans (ja.grown a0) (fun j _ e=>by rw[<-f];exact e.symm)) (v':= .slice p6 (y+1) c6) (by rw[<-f];exact a5) (fun g hg=>by
    rw[<-f]
    rcases a6 with h|h
    ·exact .inl (h▸hg)
    ·rw[h] at hg
     cases hg
     exact .inr kA.size)
   obtain⟨w7,a4⟩:∃ w7,w7=w6.setCell ⟨kb,2,none⟩ (.slice p6 (y+1) c6):=⟨_,rfl⟩;rw[<-a4] at Z ⊢;obtain⟨Z,G7⟩:=Z;obtain⟨C,I⟩:∃ C,C=Value.slice p6 (y+1) c6:=⟨_,rfl⟩;rw[<-I] at Z G7;have k:=Z.row;have b1:=zA (o:=3) k;have f3:=zB (o:=3) k;have c5:=zA (o:=5) k;have f5:=zB (o:=5) k;simp at b1 c5;have b8:=jb Z;have b4:=jb ((yu.after aj.out (b5.out.bk (kb:=kb) (wv:= .slice pw ess.length cw))).trans G7);have b2:=jb k;clear a4 I Z G7 k kA f v a5 a0 a6 M J r2 r3 ar a8;go_wp2;go_ret;have k8:=Z6 w7 kb 3 5 (.bool false) (.bool false);have ax:((w7.setCell ⟨kb,3,none⟩ (.bool false)).setCell ⟨kb,5,none⟩ (.bool false)).heap[kb]?=some (.cells (zn d b C false sf false) 51 (0,0)):=(jd ((jd b2.out _).trans rfl) _).trans rfl;exact⟨rfl,S4,_,C,_,false,sf,false,F4,(b8.out.mark k8 ax).Bl,ac.out,b7.out,Qy b4.out k8⟩
  ·obtain⟨F4,m,G⟩:=bv.out.km h4 (by omega)
   have V:El x (fun i=>F4 i\/i=kb) (.slice z H A) Y:=bu.out.step G.1 (fun i t=> .inl t) (fun i t=>by
    rcases t with t|t
    ·exact(G.2 i t).imp .inl id
    ·exact .inl (.inr t))
   obtain⟨au,q,T⟩:=m.wr.row;have D:=m.row;have z2:=zA (o:=2) D;simp at z2;have O:∀ g,(Value.slice pw ess.length cw).ownBlock=some g->¬(F4 g\/g=kb):=m.wr.nv;have a7:w0.heap.size<=x.heap.size:=by have:=m.nkb.2;have:=zC D;omega
   have ae:=jb f;have ar:x.cell? ⟨kb,2,none⟩=some (.slice pw y cw):=by rw[f];exact z2
   have r:x.ownsRow w0.heap.size 38 1 (.slice pw y cw) y au:=by rw[f];exact q
   have ad:=jb O;have b3:=jb D;have b9:=jb m;have b6:=jb V;have ab:=jb q;have af:=jb T;have b5:=jb G;have b7:=jb hc.1;have ac:Hid (yc 20000 S4 s (ess++[Y]) true sf (N+2) (L+1) true):=(show _ from(HU.out.Qd bt.out n1 n2).mono (by omega) (zJ _));have b0:Hid (y+1<=maxLen):=jb (by unfold maxLen;omega);have az:Hid ((y+1)*24<=140737488355328):=jb (by omega);have v:=r.alloc (.cells #[.slice z H A] 38);have J:w0.heap.size<=(x.alloc (.cells #[.slice z H A] 38)).heap.size:=ZI a7 (ja.alloc x _ (fun _=>False)).size;have M:∀ u∈[Value.slice z H A],u.oneCell'=true:=fun u hu=>by rw[zZ.1 hu];rfl
   have a8:Hid (∀ W6,(x.alloc (.cells #[.slice z H A] 38)).grownBy W6 (Value.slice pw y cw).ownBlock->W6.cell? ⟨kb,2,none⟩=some (.slice pw ess.length cw)/\W6.frozen? ⟨kb,2,none⟩=false):=fun W6 hg=>by
    have hk:=(ja.grown hg).same ((ja.alloc x (.cells #[.slice z H A] 38) (fun _=>False)).same b3.out id) (fun e=>ad.out kb (jad e.symm) (.inr rfl));have hc:=zA (o:=2) hk;exact⟨by simpa using hc,zB hk⟩
   clear h4 m V q T O D G hc n1 n2 z2 f r a7
   go_upto_region 15 with(first|(at_builtin;refine jy _ rfl (.tmp 48) (.tmp 50) 27 rfl w0.heap.size 38 j0 (.slice none 0 0) 1 24 underlying27 hj bl bj bi rfl ZJ _ _ _ rfl v ⟨x.heap.size,0,none⟩ 1 1 [.slice z H A] rfl rfl (cell_one_new _ _ _) M b0.out az.out J ?_;intro p6 c6 w6 a5 a0 a6;obtain⟨r2,r3⟩:=a8.out w6 a0))
   have kA:=ja.alloc x (.cells #[.slice z H A] 38) (fun _=>False);have f:=ae.out
   have Z:=b9.out.note ab.out af.out b6.out (fun g hg=>bq.out g hg) ((kA.up).trans (ja.grown a0) (fun j _ e=>by rw[<-f];exact e.symm)) (v':= .slice p6 (y+1) c6) (by rw[<-f];exact a5) (fun g hg=>by
    rw[<-f]
    rcases a6 with h|h
    ·exact .inl (h▸hg)
    ·rw[h] at hg
     cases hg
     exact .inr kA.size)
   obtain⟨w7,a4⟩:∃ w7,w7=w6.setCell ⟨kb,2,none⟩ (.slice p6 (y+1) c6):=⟨_,rfl⟩;rw[<-a4] at Z ⊢;obtain⟨Z,G7⟩:=Z;obtain⟨C,I⟩:∃ C,C=Value.slice p6 (y+1) c6:=⟨_,rfl⟩;rw[<-I] at Z G7;have k:=Z.row;have b1:=zA (o:=3) k;have f3:=zB (o:=3) k;have c5:=zA (o:=5) k;have f5:=zB (o:=5) k;simp at b1 c5;have b8:=jb Z;have b4:=jb ((yu.after aj.out (b5.out.bk (kb:=kb) (wv:= .slice pw ess.length cw))).trans G7);have b2:=jb k;clear a4 I Z G7 k kA f v a5 a0 a6 M J r2 r3 ar a8;go_wp2;go_ret;have k8:=Z6 w7 kb 3 5 (.bool true) (.bool true);have ax:((w7.setCell ⟨kb,3,none⟩ (.bool true)).setCell ⟨kb,5,none⟩ (.bool true)).heap[kb]?=some (.cells (zn d b C true sf true) 51 (0,0)):=(jd ((jd b2.out _).trans rfl) _).trans rfl;exact⟨rfl,S4,_,C,_,true,sf,true,F4,(b8.out.mark k8 ax).Bl,ac.out,b7.out,Qy b4.out k8⟩
end Go.Proofs.YtnipbplghijdmaaGreatDoor
namespace Go.Proofs.YtnipbplghijdmaaGreatDoor
open RowKit Maps WideShapes Go.Proofs.Tryz
variable {E:Nat->Addr} {B:Nat} {w w' w0 wz:World} {d b k kb U V N L:Nat} {S S':jc} {s:Rf.St} {deg:Bool} {F T:Nat->Prop} {Q R:Want} {m:Rf.Man} {bls:List (List Rf.Ch)} {ρ:Nat->j3} {ess:List (List Rf.Ch)} {wv:Value} {fl bd:Bool} {sf lv:Nat}
theorem Bd.after(h:Bd E B w0 w kb d F S k wv ess ρ w')(b:ja wz w (fun _=>False)):Bd E B w0 wz kb d F S k wv ess ρ w' :=
 ⟨h.xi,h.fit,h.env,h.wr,h.nkb,h.new,h.base,h.wx.after b⟩
theorem Bd.mark(h:Bd E B w0 wz kb d F S k wv ess ρ w)(b:ja w w' (fun i=>i=kb)):Bd E B w0 wz kb d F S k wv ess ρ w':=by
 have c:B<=kb:=ZI h.base h.nkb.2;refine⟨⟨h.xi.rep.keep b (fun i e _=>by rw[show i=kb from e];exact h.nkb.1),h.xi.z8.keep b (fun i e=>by rw[show i=kb from e];exact c),h.xi.yz,ZI h.xi.size b.size⟩,h.fit,h.env.keep b (fun i e=>by rw[show i=kb from e];exact c),h.wr.step b (fun i t=> .inr t) (fun i t=> .inl t),h.nkb,h.new,h.base,h.wx.trans ⟨b.mono (fun _ _ e=> .inr (.inl e)),fun _ t=> .inl t⟩⟩
theorem Bd.failed(h:Bd E B w0 wz kb d F S k wv ess ρ w)(b:kb<w.heap.size):Calls prog 35 #[.pointer (some ⟨d,0,none⟩),.int .i64 (-1)] w fun e w'=>e = .returned (.tuple #[])/\Bd E B w0 wz kb d F { S with fail:= -1 } k wv ess ρ w'/\ja w w' (fun i=>ρ i≠ .none):=by
 refine(jef h.xi h.env (-1) (by omega)).mono ?_;rintro e f ⟨rfl,D,c,H⟩;exact⟨rfl,h.step (k':=k) D (h.fit.zu rfl rfl rfl rfl) H c (fun i t=> .inl t) b,c⟩
theorem Bd.crashed(h:Bd E B w0 wz kb d F S k wv ess ρ w)(m:k<540000000000)(b:kb<w.heap.size)(f:Rest S (qi ess sf lv N L)){g:Value}{ch:List Int}(l:Zp w w0.heap.size g ch):Calls prog 43 #[.pointer (some ⟨d,0,none⟩),g] w fun e w'=>e = .returned (.tuple #[])/\∃ ρ',Bd E B w0 wz kb d F (S.crashed ch) 60000 wv ess ρ' w'/\ja w w' (fun i=>ρ i≠ .none):=by
 refine(jar (ch:=ch) h.xi h.fit m h.env f.wf l h.new b h.nkb.1 (by have:=h.nkb.2;omega)).mono ?_;rintro e o ⟨rfl,ρ',D,c,j,H⟩;obtain⟨_,_,n⟩:=f.Jj (fun t q=>q) ch;exact⟨rfl,ρ',h.step D n H c (vi j) b,c⟩
theorem Bd.off(h:Bd E B w0 wz kb d F S k wv ess ρ w){i:Nat}(c:i<wz.heap.size)(b:¬bkG F kb wv i):ρ i = .none:=yE (fun t=>by
 rcases h.wx.2 i (.inl t)with t|t
 ·exact b t
 ·omega)
theorem Mv(h:Bk E B w0 kb d b S s wv ess fl sf bd F w)(a:Q8):∃ W1 bx,Hid (W1=w.alloc (.cells a.row 73))/\Hid (bx=w.heap.size)/\Hid (ja w W1 (fun _=>False))/\Hid (Bk E B w0 kb d b S s wv ess fl sf bd F W1)/\Hid (W1.heap[bx]?=some (.cells a.row 73 (0,0)))/\Hid (bx<W1.heap.size/\¬bkG F kb wv bx):=by
 refine⟨_,_,rfl,rfl,ja.alloc _ _ _,h.same (ja.alloc _ _ _),je _ _,?_⟩;have c:=je w (.cells a.row 73);exact⟨zC c,fun t=>by have:=(h.lt t).2;omega⟩
theorem jf7(h:Bk E B w0 kb d b S s wv ess fl sf bd F w)(hU:yc 5400 S s ess fl sf N L bd)(hN:N+1+1<=2000000000)(hL:L<=131072)(a:Q8)(hp:Zp w w0.heap.size a.cv a.chs)(hw:a.fa<0->a.ct<0->qe S)(hc:a.ct<0->S.cut = -1) :
 Calls prog 125 #[.pointer (some ⟨kb,0,none⟩),.agg a.row] w fun e w'=>e = .returned (.bool true)/\T8 E B w0 w kb d F wv (N+1) L ess w':=by
 obtain⟨W1,bx,bs,ci,ad,ae,bq,aj⟩:=Mv h a;have bv:=jb ae.out.closed;have c1:=zA (o:=1) ae.out.row;simp at c1;have HU:=jb hU;have HP:Hid (Zp W1 w0.heap.size a.cv a.chs):=hp.keep ad.out (fun _ _ t=>t);have br:=jb hw;have bc:=jb hc;have bz:=jb (show bx<W1.heap.size from aj.out.1);obtain⟨kd,A,nb,kv,keys,fa,ct,cv,chs⟩:=a;simp only at bq HP br bc bs;obtain⟨pc,nc,cc,ce⟩:∃ p n c,cv = .slice p n c:=by obtain⟨o,c,e,_⟩:=hp;exact⟨o,_,c,e⟩
 subst ce;obtain⟨pw,cw,bk⟩:=ae.out.slice;obtain⟨nl,bb⟩:∃ nl,nl=ess.length:=⟨_,rfl⟩;have co:nl<=L:=by rw[bb];exact hU.st.len
 have ch:Hid (fl=true->1<=nl):=fun e=>by have:=(hU.st.flb e).2;have:=ZX.2 this;omega
 have C:=jb bb;have cg:=jb bk;clear h hU hp hw hc bb bk;go_enter func125,ntmps125
 go_upto_region 1 with fail
 rw[<-bs.out,<-ci.out];go_wp2_with fail;refine bv.out.mono ?_;rintro e w2 ⟨rfl,ay,ρ2,az⟩;have c0:=zA (o:=0) ay;simp at c0;have bj:=az.wx.1.same bq.out aj.out.2;have bt:=jb (U3 az (by omega) HU.out.left (by have:=C.out;simp[Jn]) (by omega) (zC ay));have bf:=jb ay;have cf:=jb bj;have bu:=jb az;clear ay bj az c1 bv;go_wp2_with fail;refine bt.out.mono ?_;clear c0 bt;rintro e w3 ⟨pv,fv,cr,ρ3,V,rfl,bm,bn,bo,k3,be⟩;have b9:=k3.same bf.out (fun t=>t bu.out.nkb.1);have aw:=k3.same cf.out (fun t=>t (bu.out.off bz.out aj.out.2));have a1:=jb b9;have ak:=jb aw;have an:=jb bm;have a6:=jb bn;have bw:=jb bo;have b8:=b9;rw[cg.out,<-C.out] at b8;have X:=jb (B5 b8 ch.out (by omega));have o4:=zA (o:=4) aw;have o5:=zA (o:=5) aw;simp at o4 o5;clear b9 aw bm bn bo k3 b8;rcases be with⟨rfl,rfl,Y,ba⟩|⟨⟨b3,rfl⟩,rfl,Y⟩
 ·rcases(by omega:fa<0\/0<=fa)with bl|bl
  ·have ac:0<=ct:=by
    rcases(by omega:ct<0\/0<=ct)with t|t
    ·exact absurd (br.out bl t) ba
    ·exact t
   have ab:¬ct<0:=by omega
   clear ba
   go_wp2_with fail
   refine X.out.mono ?_
   rintro e w4 ⟨rfl,ax⟩
   subst w4
   clear X
   obtain⟨lv,v⟩:∃ lv,lv=nl-fl.toNat:=⟨_,rfl⟩
   rw[<-v]
   have D:Hid (lv=Jn ess fl):=jb (by rw[v,C.out])
   have aa:lv<=nl:=by omega
   clear v
   obtain⟨r,g⟩:∃ r,r=w3:=⟨_,rfl⟩
   obtain⟨j,f⟩:∃ j,j=sf:=⟨_,rfl⟩
   have k:r.heap[kb]?=some (.cells (zn d b wv fl j bd) 51 (0,0)):=by rw[g,f];exact a1.out
   have u:r.heap[bx]?=some (.cells (Q8.mk kd A nb kv keys fa ct (.slice pc nc cc) chs).row 73 (0,0)):=by rw[g];exact ak.out
   have l:Bd E B w0 W1 kb d F V (2*160000+300000) wv ess ρ3 r:=by rw[g];exact an.out
   have x:Rest V (qi ess j (Jn ess fl) (N+1) L):=by have:=a6.out;rw[Y] at this;rw[f];exact this
   have M:=jb g
   clear g
   have U:=jb f
   clear f
   have I:=zC k
   have ao:Hid (∀ W,ja r W (fun _=>False)->Calls prog 43 #[.pointer (some ⟨d,0,none⟩),.slice pc nc cc] W fun e w'=>e = .returned (.tuple #[])/\∃ ρ',Bd E B w0 W1 kb d F (V.crashed chs) 60000 wv ess ρ' w'/\ja W w' (fun i=>ρ3 i≠ .none)):=fun W kW=>(l.same kW).crashed (by omega) (ZH I kW.size) x ((HP.out.keep l.wx.1 (fun i hi t=>by have:=(ae.out.lt t).1;omega)).keep kW (fun _ _ t=>t))
   have T:=zA (o:=0) k
   have O:=zA (o:=6) u
   have o5:=zA (o:=5) u
   simp at T O o5
   have T:r.drew.cell? ⟨kb,0,none⟩=some (.pointer (some ⟨d,0,none⟩)):=T
   have O:r.drew.cell? ⟨bx,6,none⟩=some (.slice pc nc cc):=O
   have a0:=jb k
   have bp:=jb u
   have a3:=jb l
   have a5:=jb x
   clear k u l x
   rw[<-M.out] at o4
   rw[<-M.out]
   go_upto_region 11 with fail
   go_region_with (go_at_call 43;refine(ao.out _ (ja.drew _ _)).mono ?_;rintro e w6 ⟨rfl,ρ6,R,k6⟩)
   all_goals
    have ah:ja r r.drew (fun _=>False):=ja.drew _ _;have z:=k6.same (ah.same a0.out id) (fun t=>t a3.out.nkb.1);obtain⟨P6,W6,F6⟩:=a5.out.Jj (fun t q=>q) chs;have y:Hid (qe { V.crashed chs with fail:= -1 }):=(show qe _ from⟨rfl,W6.cut⟩);have Z:Hid (Yw { V.crashed chs with fail:= -1 } (fun t=>t.m.next<=N+1/\t.last<=L/\∃ n,j<=n/\n<=ess.length/\t.tell=Rf.zj (ess.take n))):=P6.alike (Alike.fail _ _);have c0:=zA (o:=0) z;have c4:=zA (o:=4) z;simp at c0 c4;have a2:=jb (R.failed (zC z));have al:=jb z;have am:=jb R;clear z R k6 P6 W6 F6;go_wp2_with fail;refine a2.out.mono ?_;rintro e w7 ⟨rfl,H,k7⟩;have G:=k7.same al.out (fun t=>t am.out.nkb.1);have J:=jb (er (least:=j) (N:=N+1) (H.after ad.out) (by omega) y.out Z.out hN G HU.out.st.small (by have:=C.out;omega) (by have:=U.out;have:=HU.out.st.sf;have:Jn ess fl<=ess.length:=Nat.sub_le _ _;have:=C.out;omega));clear c0 c4 H k7 G;go_wp2_with fail;refine J.out.mono ?_;rintro e w8 ⟨rfl,h8⟩;have H8:=jb h8;clear h8;go_wp2;go_ret;exact⟨rfl,H8.out⟩
  ·have cp:¬fa<0:=by omega
   clear ba;rcases(by omega:ct<0\/0<=ct)with ac|ac
   ·have ab:¬0<=ct:=by omega
    go_wp2_with fail;refine X.out.mono ?_;rintro e w4 ⟨rfl,ax⟩;subst w4;clear X;obtain⟨lv,v⟩:∃ lv,lv=nl-fl.toNat:=⟨_,rfl⟩;rw[<-v];have D:Hid (lv=Jn ess fl):=jb (by rw[v,C.out]);have aa:lv<=nl:=by omega
    clear v;obtain⟨r,g⟩:∃ r,r=w3:=⟨_,rfl⟩;obtain⟨j,f⟩:∃ j,j=sf:=⟨_,rfl⟩;have k:r.heap[kb]?=some (.cells (zn d b wv fl j bd) 51 (0,0)):=by rw[g,f];exact a1.out
    have u:r.heap[bx]?=some (.cells (Q8.mk kd A nb kv keys fa ct (.slice pc nc cc) chs).row 73 (0,0)):=by rw[g];exact ak.out
    have l:Bd E B w0 W1 kb d F V (2*160000+300000) wv ess ρ3 r:=by rw[g];exact an.out
    have x:Rest V (qi ess j (Jn ess fl) (N+1) L):=by have:=a6.out;rw[Y] at this;rw[f];exact this
    have M:=jb g;clear g;have U:=jb f;clear f;have I:=zC k;have y:Hid (qe { V with fail:= -1 }):=(show qe _ from⟨rfl,bw.out (bc.out ac)⟩);have Z:Hid (Yw { V with fail:= -1 } (fun t=>t.m.next<=N+1/\t.last<=L/\∃ n,lv<=n/\n<=ess.length/\t.tell=Rf.zj (ess.take n))):=((x.M1 (fun t q=>q)).mono (fun t ht=>⟨ht.1.1,ht.1.2.1,lv,zJ _,by have:=C.out;omega,by rw[D.out];exact ht.2⟩)).alike (Alike.fail _ _);have c0:=zA (o:=0) k;have o5:=zA (o:=5) u;simp at c0 o5;have a2:=jb (l.failed I);have a0:=jb k;have a3:=jb l;clear k l x u;rw[<-M.out] at o4;rw[<-M.out];go_wp2_with fail;refine a2.out.mono ?_;rintro e w7 ⟨rfl,H,k7⟩;have G:=k7.same a0.out (fun t=>t a3.out.nkb.1);have J:=jb (er (least:=lv) (N:=N+1) (H.after ad.out) (by omega) y.out Z.out hN G HU.out.st.small (by have:=C.out;omega) (by omega));clear c0 H k7 G;go_wp2_with fail;refine J.out.mono ?_;rintro e w8 ⟨rfl,h8⟩;have H8:=jb h8;clear h8;go_wp2;go_ret;exact⟨rfl,H8.out⟩
   ·have ab:¬ct<0:=by omega
    go_wp2_with fail;refine X.out.mono ?_;rintro e w4 ⟨rfl,ax⟩;subst w4;clear X;obtain⟨lv,v⟩:∃ lv,lv=nl-fl.toNat:=⟨_,rfl⟩;rw[<-v];have D:Hid (lv=Jn ess fl):=jb (by rw[v,C.out]);have aa:lv<=nl:=by omega
    clear v;obtain⟨r,g⟩:∃ r,r=w3:=⟨_,rfl⟩;obtain⟨j,f⟩:∃ j,j=sf:=⟨_,rfl⟩;have k:r.heap[kb]?=some (.cells (zn d b wv fl j bd) 51 (0,0)):=by rw[g,f];exact a1.out
    have u:r.heap[bx]?=some (.cells (Q8.mk kd A nb kv keys fa ct (.slice pc nc cc) chs).row 73 (0,0)):=by rw[g];exact ak.out
    have l:Bd E B w0 W1 kb d F V (2*160000+300000) wv ess ρ3 r:=by rw[g];exact an.out
    have x:Rest V (qi ess j (Jn ess fl) (N+1) L):=by have:=a6.out;rw[Y] at this;rw[f];exact this
    have M:=jb g;clear g;have U:=jb f;clear f;have I:=zC k;have ao:Hid (∀ W,ja r W (fun _=>False)->Calls prog 43 #[.pointer (some ⟨d,0,none⟩),.slice pc nc cc] W fun e w'=>e = .returned (.tuple #[])/\∃ ρ',Bd E B w0 W1 kb d F (V.crashed chs) 60000 wv ess ρ' w'/\ja W w' (fun i=>ρ3 i≠ .none)):=fun W kW=>(l.same kW).crashed (by omega) (ZH I kW.size) x ((HP.out.keep l.wx.1 (fun i hi t=>by have:=(ae.out.lt t).1;omega)).keep kW (fun _ _ t=>t));have T:=zA (o:=0) k;have O:=zA (o:=6) u;have o5:=zA (o:=5) u;simp at T O o5;have T:r.drew.cell? ⟨kb,0,none⟩=some (.pointer (some ⟨d,0,none⟩)):=T;have O:r.drew.cell? ⟨bx,6,none⟩=some (.slice pc nc cc):=O;have a0:=jb k;have bp:=jb u;have a3:=jb l;have a5:=jb x;clear k u l x;rw[<-M.out] at o4;rw[<-M.out]
    go_upto_region 11 with fail
    go_region_with (go_at_call 43;refine(ao.out _ (ja.drew _ _)).mono ?_;rintro e w6 ⟨rfl,ρ6,R,k6⟩)
    all_goals
     have ah:ja r r.drew (fun _=>False):=ja.drew _ _;have z:=k6.same (ah.same a0.out id) (fun t=>t a3.out.nkb.1);obtain⟨P6,W6,F6⟩:=a5.out.Jj (fun t q=>q) chs;have y:Hid (qe { V.crashed chs with fail:= -1 }):=(show qe _ from⟨rfl,W6.cut⟩);have Z:Hid (Yw { V.crashed chs with fail:= -1 } (fun t=>t.m.next<=N+1/\t.last<=L/\∃ n,j<=n/\n<=ess.length/\t.tell=Rf.zj (ess.take n))):=P6.alike (Alike.fail _ _);have c0:=zA (o:=0) z;have c4:=zA (o:=4) z;simp at c0 c4;have a2:=jb (R.failed (zC z));have al:=jb z;have am:=jb R;clear z R k6 P6 W6 F6;go_wp2_with fail;refine a2.out.mono ?_;rintro e w7 ⟨rfl,H,k7⟩;have G:=k7.same al.out (fun t=>t am.out.nkb.1);have J:=jb (er (least:=j) (N:=N+1) (H.after ad.out) (by omega) y.out Z.out hN G HU.out.st.small (by have:=C.out;omega) (by have:=U.out;have:=HU.out.st.sf;have:Jn ess fl<=ess.length:=Nat.sub_le _ _;have:=C.out;omega));clear c0 c4 H k7 G;go_wp2_with fail;refine J.out.mono ?_;rintro e w8 ⟨rfl,h8⟩;have H8:=jb h8;clear h8;go_wp2;go_ret;exact⟨rfl,H8.out⟩
 ·rcases(by omega:ct<0\/0<=ct)with ac|ac
  ·have ab:¬0<=ct:=by omega
   go_wp2_with fail;refine X.out.mono ?_;rintro e w4 ⟨rfl,ax⟩;subst w4;clear X;obtain⟨lv,v⟩:∃ lv,lv=nl-fl.toNat:=⟨_,rfl⟩;rw[<-v];have D:Hid (lv=Jn ess fl):=jb (by rw[v,C.out]);have aa:lv<=nl:=by omega
   clear v;obtain⟨r,g⟩:∃ r,r=w3.setCell ⟨kb,4,none⟩ (.int .i64 lv):=⟨_,rfl⟩;have k5:ja w3 r (fun i=>i=kb):=by rw[g];exact Q1 _ _ _ _
   have k:r.heap[kb]?=some (.cells (zn d b wv fl lv bd) 51 (0,0)):=by rw[g];exact(jd a1.out _).trans rfl
   have ai:bx≠kb:=fun e=>aj.out.2 (.inr (.inl e));have u:=k5.same ak.out ai;have l:=an.out.mark k5;have x:Rest V (qi ess lv (Jn ess fl) (N+1) L):=by have:=a6.out;rw[Y,<-D.out] at this;rw[<-D.out];exact this
   have c4:=zA (o:=4) a1.out;have f4:=zB (o:=4) a1.out;simp at c4;have M:=jb g;obtain⟨j,f⟩:∃ j,j=lv:=⟨_,rfl⟩;rw[<-f] at k x;clear g ai k5;have U:=jb f;clear f;have I:=zC k;have y:Hid (qe { V with fail:= -1 }):=(show qe _ from⟨rfl,bw.out (bc.out ac)⟩);have Z:Hid (Yw { V with fail:= -1 } (fun t=>t.m.next<=N+1/\t.last<=L/\∃ n,lv<=n/\n<=ess.length/\t.tell=Rf.zj (ess.take n))):=((x.M1 (fun t q=>q)).mono (fun t ht=>⟨ht.1.1,ht.1.2.1,lv,zJ _,by have:=C.out;omega,by rw[D.out];exact ht.2⟩)).alike (Alike.fail _ _);have c0:=zA (o:=0) k;have o5:=zA (o:=5) u;simp at c0 o5;have a2:=jb (l.failed I);have a0:=jb k;have a3:=jb l;clear k l x u
   go_upto_region 10 with fail
   rw[<-M.out];go_wp2_with fail;refine a2.out.mono ?_;rintro e w7 ⟨rfl,H,k7⟩;have G:=k7.same a0.out (fun t=>t a3.out.nkb.1);have J:=jb (er (least:=lv) (N:=N+1) (H.after ad.out) (by omega) y.out Z.out hN G HU.out.st.small (by have:=C.out;omega) (by omega));clear c0 H k7 G;go_wp2_with fail;refine J.out.mono ?_;rintro e w8 ⟨rfl,h8⟩;have H8:=jb h8;clear h8;go_wp2;go_ret;exact⟨rfl,H8.out⟩
  ·have ab:¬ct<0:=by omega
   go_wp2_with fail;refine X.out.mono ?_;rintro e w4 ⟨rfl,ax⟩;subst w4;clear X;obtain⟨lv,v⟩:∃ lv,lv=nl-fl.toNat:=⟨_,rfl⟩;rw[<-v];have D:Hid (lv=Jn ess fl):=jb (by rw[v,C.out]);have aa:lv<=nl:=by omega
   clear v;obtain⟨r,g⟩:∃ r,r=w3.setCell ⟨kb,4,none⟩ (.int .i64 lv):=⟨_,rfl⟩;have k5:ja w3 r (fun i=>i=kb):=by rw[g];exact Q1 _ _ _ _
   have k:r.heap[kb]?=some (.cells (zn d b wv fl lv bd) 51 (0,0)):=by rw[g];exact(jd a1.out _).trans rfl
   have ai:bx≠kb:=fun e=>aj.out.2 (.inr (.inl e));have u:=k5.same ak.out ai;have l:=an.out.mark k5;have x:Rest V (qi ess lv (Jn ess fl) (N+1) L):=by have:=a6.out;rw[Y,<-D.out] at this;rw[<-D.out];exact this
   have c4:=zA (o:=4) a1.out;have f4:=zB (o:=4) a1.out;simp at c4;have M:=jb g;obtain⟨j,f⟩:∃ j,j=lv:=⟨_,rfl⟩;rw[<-f] at k x;clear g ai k5;have U:=jb f;clear f;have I:=zC k;have ao:Hid (∀ W,ja r W (fun _=>False)->Calls prog 43 #[.pointer (some ⟨d,0,none⟩),.slice pc nc cc] W fun e w'=>e = .returned (.tuple #[])/\∃ ρ',Bd E B w0 W1 kb d F (V.crashed chs) 60000 wv ess ρ' w'/\ja W w' (fun i=>ρ3 i≠ .none)):=fun W kW=>(l.same kW).crashed (by omega) (ZH I kW.size) x ((HP.out.keep l.wx.1 (fun i hi t=>by have:=(ae.out.lt t).1;omega)).keep kW (fun _ _ t=>t));have T:=zA (o:=0) k;have O:=zA (o:=6) u;have o5:=zA (o:=5) u;simp at T O o5;have T:r.drew.cell? ⟨kb,0,none⟩=some (.pointer (some ⟨d,0,none⟩)):=T;have O:r.drew.cell? ⟨bx,6,none⟩=some (.slice pc nc cc):=O;have a0:=jb k;have bp:=jb u;have a3:=jb l;have a5:=jb x;clear k u l x
   go_upto_region 10 with fail
   rw[<-M.out]
   go_upto_region 11 with fail
   go_region_with (go_at_call 43;refine(ao.out _ (ja.drew _ _)).mono ?_;rintro e w6 ⟨rfl,ρ6,R,k6⟩)
   all_goals
    have ah:ja r r.drew (fun _=>False):=ja.drew _ _;have z:=k6.same (ah.same a0.out id) (fun t=>t a3.out.nkb.1);obtain⟨P6,W6,F6⟩:=a5.out.Jj (fun t q=>q) chs;have y:Hid (qe { V.crashed chs with fail:= -1 }):=(show qe _ from⟨rfl,W6.cut⟩);have Z:Hid (Yw { V.crashed chs with fail:= -1 } (fun t=>t.m.next<=N+1/\t.last<=L/\∃ n,j<=n/\n<=ess.length/\t.tell=Rf.zj (ess.take n))):=P6.alike (Alike.fail _ _);have c0:=zA (o:=0) z;have c4:=zA (o:=4) z;simp at c0 c4;have a2:=jb (R.failed (zC z));have al:=jb z;have am:=jb R;clear z R k6 P6 W6 F6;go_wp2_with fail;refine a2.out.mono ?_;rintro e w7 ⟨rfl,H,k7⟩;have G:=k7.same al.out (fun t=>t am.out.nkb.1);have J:=jb (er (least:=j) (N:=N+1) (H.after ad.out) (by omega) y.out Z.out hN G HU.out.st.small (by have:=C.out;omega) (by have:=U.out;omega));clear c0 c4 H k7 G;go_wp2_with fail;refine J.out.mono ?_;rintro e w8 ⟨rfl,h8⟩;have H8:=jb h8;clear h8;go_wp2;go_ret;exact⟨rfl,H8.out⟩
end Go.Proofs.YtnipbplghijdmaaGreatDoor
namespace Go.Proofs.YtnipbplghijdmaaGreatDoor
open RowKit Maps WideShapes Go.Proofs.Tryz
variable {E:Nat->Addr} {B:Nat} {w w' w0 wz:World} {d b k kb U V N L:Nat} {S S':jc} {s:Rf.St} {deg:Bool} {F T:Nat->Prop} {Q R:Want} {m:Rf.Man} {bls:List (List Rf.Ch)} {ρ:Nat->j3} {ess:List (List Rf.Ch)} {wv:Value} {fl bd:Bool} {sf lv:Nat}
theorem jel(h:Bk E B w0 kb d b S s wv ess fl sf bd F w)(f:yc 5400 S s ess fl sf N L bd)(g:total S.files S.names<=5000)(j:N+2+2<=2000000000)(i:L<131072)(a:Q8)(c:I64 a.kd)(k:Zs w a.kv a.keys) :
 Calls prog 36 #[.pointer (some ⟨kb,0,none⟩),.agg a.row] w fun e w'=>e = .returned (.bool true)/\fx E B w0 w kb d b F wv S N L w':=by
 cases bd with
 | true=>exact jb9 h f a
 | false =>
  have l:=Ya a.kd (n:=8) (by decide);rcases(by omega:Q9 a.kd 8<4\/Q9 a.kd 8=4\/Q9 a.kd 8=5\/6<=Q9 a.kd 8)with t|t|t|t
  ·exact Wb h f g i a c k rfl t
  ·exact jb8 h f g (by omega) i a c rfl t
  ·exact Wc h f g j i a c rfl t
  ·exact Pa h f g j i a c rfl t
theorem yu.off{w c:World}{G b:Nat->Prop}(h:yu w G c b){i:Nat}(f:i<w.heap.size)(d:¬G i):¬b i:=fun t=>by
 rcases h.2 i t with t|t
 ·exact d t
 ·omega
theorem Bk.fail(h:Bk E B w0 kb d b S s wv ess fl sf bd F w)(n:Int)(f:n<=9223372036854775807) :
 Calls prog 35 #[.pointer (some ⟨d,0,none⟩),.int .i64 n] w fun e w'=>e = .returned (.tuple #[])/\∃ F',Bk E B w0 kb d b { S with fail:=max n (-1) } s wv ess fl sf bd F' w'/\yu w (bkG F kb wv) w' (bkG F' kb wv):=by
 refine(jha h.own n f).mono ?_;rintro e j ⟨rfl,c⟩;obtain⟨F',i,g⟩:=h.km c (by omega);exact⟨rfl,F',i.Bl,g.bk⟩
theorem Bk.cut(h:Bk E B w0 kb d b S s wv ess fl sf bd F w)(n:Int)(f:n<=9223372036854775807) :
 Calls prog 44 #[.pointer (some ⟨d,0,none⟩),.int .i64 n] w fun e w'=>e = .returned (.tuple #[])/\∃ F',Bk E B w0 kb d b { S with cut:=max n (-1) } s wv ess fl sf bd F' w'/\yu w (bkG F kb wv) w' (bkG F' kb wv):=by
 refine(jhu h.own n f).mono ?_;rintro e j ⟨rfl,c⟩;obtain⟨F',i,g⟩:=h.km c (by omega);exact⟨rfl,F',i.Bl,g.bk⟩
def Ko(E:Nat->Addr)(B:Nat)(w0 W1:World)(kb d b:Nat)(S:jc)(s:Rf.St)(wv:Value)(ess:List (List Rf.Ch))(fl:Bool)(sf:Nat)(bd:Bool)(F:Nat->Prop)(bx:Nat)(row:Array Value)(fa ct:Int)(W:World):Prop :=
 ∃ S1 F1,Bk E B w0 kb d b S1 s wv ess fl sf bd F1 W/\Alike S S1/\(fa<0->S1.fail = -1)/\(ct<0->S1.cut = -1)/\yu W1 (bkG F kb wv) W (bkG F1 kb wv)/\W.heap[bx]?=some (.cells row 73 (0,0))
def ie(E:Nat->Addr)(B:Nat)(w0 w:World)(kb d:Nat)(F:Nat->Prop)(wv:Value)(N L:Nat)(w':World):Prop :=
 ∃ b' S' s' wv' ess' fl' sf' bd' F',Bk E B w0 kb d b' S' s' wv' ess' fl' sf' bd' F' w'/\J3 S' s' ess' fl' sf' (N+3) (L+1) bd'/\qe S'/\yu w (bkG F kb wv) w' (bkG F' kb wv')
theorem T8.act{N':Nat}(h:T8 E B w0 wz kb d F wv N' L ess w)(p:∀ b∈ess,b.length<=8)(i:ess.length<=L){M K:Nat}(m:N'+1<=M+3)(o:L<=K+1):ie E B w0 wz kb d F wv M K w:=by
 obtain⟨b,S',s,n,c,q,k,f,l,g,j⟩:=h;exact⟨b,S',s,c,_,_,_,_,q,k,(J3.opened f g p i).mono m o,l,j⟩
theorem ie.after(h:ie E B w0 w kb d F wv N L w'){l:Nat->Prop}{b:Value}(k:yu wz (bkG l kb b) w (bkG F kb wv)):ie E B w0 wz kb d l b N L w':=by
 obtain⟨b',S',s',f,c,i,g,j,q,p,o,n,m⟩:=h;exact⟨b',S',s',f,c,i,g,j,q,p,o,n,k.trans m⟩
theorem jhw(h:Bk E B w0 kb d b S s wv ess fl sf bd F w)(hU:yc 5400 S s ess fl sf N L bd)(hv:total S.files S.names<=5000)(hN:N+2+2<=2000000000)(hL:L<131072)(hW:qe S)(a:Q8)(ha:Zr w w0.heap.size a) :
 Calls prog 76 #[.pointer (some ⟨kb,0,none⟩),.agg a.row] w fun e w'=>e = .returned (.bool true)/\ie E B w0 w kb d F wv N L w':=by
 obtain⟨q,O,bc,c7,bf,a4,a2,D⟩:=Mv h a;have HU:=jb hU;have HV:=jb hv;have HA:Hid (Zr q w0.heap.size a):=ha.keep bf.out (fun _ _ t=>t);have ab:=ha.fa;have ac:=ha.ct;have aa:=ha.kd;have ai:=jb hW;obtain⟨x,hx⟩:∃ x,x=a:=⟨_,rfl⟩;rw[<-hx] at HA;have HX:=jb hx;obtain⟨J,A,nb,kv,keys,f,g,cv,l⟩:=a;simp only at a2 bc ab ac aa;obtain⟨pc,nc,cc,bz⟩:∃ p n c,cv = .slice p n c:=by obtain⟨o,c,e,_⟩:=ha.chs;exact⟨o,_,c,e⟩
 subst bz;have a3:∀(z:Int) (n:Nat),I64 z->0<n->n<1000->Hid (∀ W,Calls prog 25 #[.int .i64 z,.int .i64 n] W fun e w'=>e = .returned (.int .i64 (Q9 z n))/\w'=W):=fun z n hz h0 h1 W=>Xu z hz.1 hz.2 n h0 h1 W;have ak:=a3 f 30 ab (by decide) (by decide);have am:=a3 g 30 ac (by decide) (by decide);have al:=a3 J 8 aa (by decide) (by decide);have b4:=Ya f (n:=30) (by decide);have v:=Ya g (n:=30) (by decide);have bv:=Ya J (n:=8) (by decide);generalize Q9 f 30=pf at ak b4;generalize Q9 g 30=pt at am v;generalize Q9 J 8=P at al bv
 have G:Hid (∀ W,ja q W (fun _=>False)->Calls prog 35 #[.pointer (some ⟨d,0,none⟩),.int .i64 pf] W fun e w'=>e = .returned (.tuple #[])/\(0<=f->Ko E B w0 q kb d b S s wv ess fl sf bd F O (Q8.mk J A nb kv keys f g (.slice pc nc cc) l).row f (-1) w')):=fun W kW=>by
  refine((a4.out.same kW).fail pf (by omega)).mono ?_;rintro e w2 ⟨rfl,F2,h2,g2⟩;exact⟨rfl,fun y=>⟨_,F2,h2,Alike.fail _ _,fun t=>by omega,fun _=>ai.out.cut,g2.after kW,g2.1.same (kW.same a2.out id) D.out.2⟩⟩
 have I:Hid (f<0->Ko E B w0 q kb d b S s wv ess fl sf bd F O (Q8.mk J A nb kv keys f g (.slice pc nc cc) l).row f (-1) q):=fun y=>⟨S,F,a4.out,Alike.refl _,fun _=>ai.out.fail,fun _=>ai.out.cut,yu.refl _ _,a2.out⟩;have o4:=zA (o:=4) a2.out;have M:=zA (o:=0) a4.out.row;simp at o4 M;clear h hU hv hW ha hx ab ac aa a3;go_enter func76,ntmps76
 go_upto_region 1 with fail
 rw[<-bc.out,<-c7.out]
 go_upto_if 8 with fail
 go_cut [] from 6 (fun wc=>Ko E B w0 q kb d b S s wv ess fl sf bd F O (Q8.mk J A nb kv keys f g (.slice pc nc cc) l).row f (-1) wc)
 case first =>
  rcases(by omega:f<0\/0<=f)with y|y
  ·have bw:¬0<=f:=by omega
   have HR:=jb (I.out y);go_wp2;go_meet
   case rel=>exact HR.out
  ·have an:Hid (∀ W,ja q W (fun _=>False)->Calls prog 35 #[.pointer (some ⟨d,0,none⟩),.int .i64 pf] W fun e w'=>e = .returned (.tuple #[])/\Hid (Ko E B w0 q kb d b S s wv ess fl sf bd F O (Q8.mk J A nb kv keys f g (.slice pc nc cc) l).row f (-1) w')):=fun W kW=>(G.out W kW).mono (fun e w' h=>⟨h.1,h.2 y⟩)
   have d3:q.drew.cell? ⟨O,4,none⟩=some (.int .i64 f):=o4;have c1:q.drew.cell? ⟨kb,0,none⟩=some (.pointer (some ⟨d,0,none⟩)):=M
   go_upto_region 2 with fail
   go_region_with (first|(go_at_call 25;refine(ak.out _).mono ?_;rintro e w2 ⟨rfl,rfl⟩)|(go_at_call 35;refine(an.out _ (ja.drew _ _)).mono ?_;rintro e w3 ⟨rfl,h3⟩))
   all_goals
    go_wp2;go_meet
   all_goals exact h3.out
 case rest =>
  have aq:=jb hcut;obtain⟨S1,F1,a1,ah,ae,b7,X,T⟩:=hcut;have o5:=zA (o:=5) T;have M:=zA (o:=0) a1.row;simp at o5 M
  have a7:Hid (∀ W,ja wc W (fun _=>False)->0<=g->Calls prog 44 #[.pointer (some ⟨d,0,none⟩),.int .i64 pt] W fun e w'=>e = .returned (.tuple #[])/\Hid (Ko E B w0 q kb d b S s wv ess fl sf bd F O (Q8.mk J A nb kv keys f g (.slice pc nc cc) l).row f g w')):=fun W kW k=>by
   refine((a1.same kW).cut pt (by omega)).mono ?_;rintro e w2 ⟨rfl,F2,h2,g2⟩;exact⟨rfl,⟨_,F2,h2,ah.trans (Alike.cut _ _),fun t=>ae t,fun t=>by omega,(X.same kW).trans g2,g2.1.same (kW.same T id) (X.off D.out.1 D.out.2)⟩⟩
  have H:Hid (g<0->Ko E B w0 q kb d b S s wv ess fl sf bd F O (Q8.mk J A nb kv keys f g (.slice pc nc cc) l).row f g wc):=fun k=>⟨S1,F1,a1,ah,ae,fun _=>b7 (by omega),X,T⟩;clear a1 ah ae b7 X T G I o4
  go_upto_if 19 with fail
  obtain⟨w2,bu⟩:∃ w2,w2=wc:=⟨_,rfl⟩
  go_cut [] from 6 (fun wc=>Ko E B w0 q kb d b S s wv ess fl sf bd F O (Q8.mk J A nb kv keys f g (.slice pc nc cc) l).row f g wc)
  case first =>
   rcases(by omega:g<0\/0<=g)with k|k
   ·have bw:¬0<=g:=by omega
    have HR:=jb (H.out k);go_wp2;go_meet
    case rel=>exact HR.out
   ·have an:=jb (fun W kW=>a7.out W kW k)
    have d2:wc.drew.cell? ⟨O,5,none⟩=some (.int .i64 g):=o5;have c1:wc.drew.cell? ⟨kb,0,none⟩=some (.pointer (some ⟨d,0,none⟩)):=M
    go_upto_region 4 with fail
    go_region_with (first|(go_at_call 25;refine(am.out _).mono ?_;rintro e w2 ⟨rfl,rfl⟩)|(go_at_call 44;refine(an.out _ (ja.drew _ _)).mono ?_;rintro e w3 ⟨rfl,h3⟩))
    all_goals
     go_wp2;go_meet
    all_goals exact h3.out
  case rest =>
   clear o5 M bu aq a7 H ak am b4 v;obtain⟨S2,F2,a0,ag,b6,Y,V,j⟩:=hcut;have af:=HU.out.alike ag;have b2:total S2.files S2.names<=5000:=by rw[ag.total];exact HV.out
   have C:Zr wc w0.heap.size x:=HA.out.keep V.1 (fun i hi t=>by have:=(a4.out.lt t).1;omega);have R:=HX.out;have c4:=jb V;have bh:Hid (yu w (bkG F kb wv) wc (bkG F2 kb wv)):=V.after bf.out;have ap:=jb (jf7 a0 af (by omega) (by omega) x C.chs (by rw[R];exact fun t u=>⟨b6 t,Y u⟩) (by rw[R];exact Y));have ao:=jb (jel a0 af b2 hN hL x C.kd C.keys);rw[R] at ap ao;have o0:=zA (o:=0) j;have o1:=zA (o:=1) j;have o2:=zA (o:=2) j;have o3:=zA (o:=3) j;have o4:=zA (o:=4) j;have o5:=zA (o:=5) j;have o6:=zA (o:=6) j;simp at o0 o1 o2 o3 o4 o5 o6;have c8:=jb a0;have c6:=jb Y;have c3:=jb j;have c9:=jb C;have be:=jb HU.out.st;clear a0 ag b6 Y V j af b2 C R;by_cases hP:P=7
   ·subst hP
    go_wp2_with fail;refine(al.out _).mono ?_;rintro e w3 ⟨rfl,bt⟩;subst w3;go_wp2_with fail;refine ap.out.mono ?_;rintro e w4 ⟨rfl,h4⟩;have H4:Hid (ie E B w0 w kb d F wv N L w4):=(h4.act be.out.small (by have:=be.out.len;omega) (by omega) (by omega)).after bh.out;clear h4;go_wp2;go_ret;exact⟨rfl,H4.out⟩
   ·have d4:((P:Int)==7)=false:=by simp;omega
    clear ap;go_wp2_with fail;refine(al.out _).mono ?_;rintro e w3 ⟨rfl,bt⟩;subst w3;go_wp2_with fail;refine ao.out.mono ?_;rintro e w4 ⟨rfl,S4,s4,bs,m,bb,b1,c2,F4,Z,r,b9,U⟩;have ad:=U.1.same c3.out (c4.out.off D.out.1 D.out.2);have b8:=bh.out.trans U;have p5:=zA (o:=5) ad;have p6:=zA (o:=6) ad;have M:=zA (o:=0) Z.row;simp at p5 p6 M;have bi:=jb (Z.fail (-1) (by omega));have ba:Zr w4 w0.heap.size x:=c9.out.keep U.1 (fun i hi t=>by have:=(c8.out.lt t).1;omega);have b5:m.length<=131072:=by have:=r.st.len;omega
    have b3:b1<=131072:=by have:=r.st.sf;have:Jn m bb<=m.length:=Nat.sub_le _ _;omega
    have v:Zp w4 w0.heap.size (.slice pc nc cc) l:=by have:=ba.chs;rw[HX.out] at this;exact this
    have bj:=jb (jb0 Z r.left.rest (by omega) r.st.small b5 b3 v);have aj:=jb r;have c5:=jb b9;have bg:=jb b8;clear Z r b9 U ad b8 ba b5 b3 v o0 o1 o2 o3 o4 o5 o6 ao HX;rcases(by omega:g<0\/0<=g)with k|k
    ·clear p6 bj
     go_wp2_with fail;refine bi.out.mono ?_;rintro e w5 ⟨rfl,F5,h5,g5⟩;have H5:Hid (ie E B w0 w kb d F wv N L w5):=(show _ from⟨b,_,s4,bs,m,bb,b1,c2,F5,h5,(aj.out.alike (Alike.fail _ _)).toN.mono (by omega) (zJ _),⟨rfl,c5.out (c6.out k)⟩,bg.out.trans g5⟩);clear h5 g5;go_wp2;go_ret;exact⟨rfl,H5.out⟩
    ·have cp:¬g<0:=by omega
     clear M bi;go_wp2_with fail;refine bj.out.mono ?_;rintro e w5 ⟨rfl,h5⟩;have H5:Hid (ie E B w0 w kb d F wv N L w5):=(h5.act aj.out.st.small aj.out.st.len (by omega) (zJ _)).after bg.out;clear h5;go_wp2;go_ret;exact⟨rfl,H5.out⟩
end Go.Proofs.YtnipbplghijdmaaGreatDoor
namespace Go.Proofs.YtnipbplghijdmaaGreatDoor
open RowKit Maps WideShapes Go.Proofs.Tryz
variable {E:Nat->Addr} {B:Nat} {w w':World}
theorem jgf(H:Env E B w)(f:B<=w.heap.size):Calls prog 16 #[] w fun e w'=>∃ d ρ,e = .returned (.pointer (some ⟨d,0,none⟩))/\Dk E B w' ρ d jc.new/\ja w w' (fun _=>False)/\∀ i,ρ i≠ .none->w.heap.size<=i:=by
 refine(jfp w).mono ?_;rintro e w' ⟨rfl,R,b⟩
 have c:∀ i,mi w.heap.size i≠ .none->w.heap.size<=i:=fun i hi=>by
  unfold mi at hi;rcases zV i w.heap.size with h|h
  ·exfalso
   apply hi
   repeat' split
   all_goals first|rfl|omega
  ·exact h
 exact⟨_,_,rfl,⟨R,H.z8.keep b (fun _ h=>h.elim),fun i hi=>ZI f (c i hi),ZI f b.size⟩,b,c⟩
def jhj(E:Nat->Addr)(B:Nat)(w:World)(ρ:Nat->j3)(d:Nat)(e:Ending)(w':World):Prop :=
 ∃ b F S',e = .returned (.tuple #[.pointer (some ⟨b,0,none⟩),.int .i64 0])/\w.heap.size<=b/\Qu E B w' d b S' 60000 Rf.St.first false F/\Norm S' 20000 Rf.St.first (qi [] 0 0 2 0).whole/\qe S'/\ja w w' (fun i=>ρ i≠ .none)/\∀ i,F i->ρ i≠ .none\/w.heap.size<=i
theorem jby:(qi [] 0 0 2 0).now Rf.St.first:=qi.now (by decide) (by decide) (zJ _) (zJ _) rfl
theorem Hb{ρ:Nat->j3}{d:Nat}(D:Dk E B w ρ d jc.new)(H:Env E B w):Calls prog 45 #[.pointer (some ⟨d,0,none⟩)] w (jhj E B w ρ d):=by
 refine(Wj D qe.new ⟨[],⟨bz.nil,fun p hp=>(by cases hp),List.Pairwise.nil⟩,List.Perm.refl _⟩ Fit.new H (by omega)).mono ?_;rintro e w' ⟨S',r,u,b,l,rv,m,x,y,M,q,s,v,g⟩;have N:Norm S' 200 Rf.St.first (qi [] 0 0 2 0).whole:=We (S:=jc.new.called false) rfl rfl rfl (fun f=>rfl) jby r;have o:=N.mono (V:=20000) (by omega) (Want.Le.refl _);refine⟨b,fun i=>StF l b m i\/∃ p n c,rv = .slice (some p) n c/\p.block=i,S',x,y,Qu.fit ⟨l,rv,m,M,fun _=>Iff.rfl⟩ (o.fit (by omega)),o,u,q,fun i hi=>?_⟩;rcases zV i w.heap.size with j|k
 ·refine .inl ?_
  rcases hi with(t|t|t)|⟨p,n,c,e,rfl⟩
  ·rw[<-s i j];exact t
  ·omega
  ·have:=v i t;omega
  ·have:=g p n c e;omega
 ·exact .inr k
end Go.Proofs.YtnipbplghijdmaaGreatDoor
