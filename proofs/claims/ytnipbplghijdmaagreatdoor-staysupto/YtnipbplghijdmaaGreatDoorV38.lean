/-
  V: SettleR RenewR LoadR OpenR OpenR2 PwF.
-/
import Derived.Test.YtnipbplghijdmaaGreatDoorV37
import Derived.Test.YtnipbplghijdmaaGreatDoorV32
set_option maxRecDepth 100000
set_option maxHeartbeats 8000000
set_option linter.unusedVariables false
set_option linter.unusedSimpArgs false
namespace Go.Proofs.YtnipbplghijdmaaGreatDoor
open RowKit Maps WideShapes Go.Proofs.Tryz
def tt(E:Nat->Addr)(B:Nat)(w:World)(ρ:Nat->j3)(d b:Nat)(rv mv:Value)(S:jc)(k:Nat)(m:Rf.Man)(last:Nat)(ml:List Rf.Ch)(ok:Bool)(e:Ending)(w':World):Prop :=
 e = .returned (.int .i64 (if ok=true then 0 else 1))/\yz E B w ρ d b rv mv S k m last ml (!ok) w'
variable {E:Nat->Addr} {B:Nat} {w w':World} {ρ:Nat->j3} {d b k:Nat} {S:jc} {m:Rf.Man} {last:Nat} {ml:List Rf.Ch} {rv mv:Value}
theorem StM.mono{c:Bool}{j:Nat}(h:StM E B w ρ d b S k m last ml c rv mv)(f:k<=j):StM E B w ρ d b S j m last ml c rv mv :=
 ⟨h.env,h.xl,h.fit.mono f,h.row,h.runs,h.mem,h.nb,h.nr,h.nm,h.yy,h.rising,h.few,h.au⟩
theorem yz.still{f:Bool}{j:Nat}(h:StM E B w ρ d b S k m last ml f rv mv)(i:ja w w' (fun _=>False))(l:k<=j):yz E B w ρ d b rv mv S j m last ml f w' :=
 ⟨ρ,rv,mv,(h.same i).mono l,i.up,fun _ _=>rfl,fun g hg=> .inl hg,fun p n c e=> .inl ⟨n,c,e⟩⟩
theorem yz.before{u:World}{f:Bool}(l:ja w u (fun _=>False))(h:yz E B u ρ d b rv mv S k m last ml f w'):yz E B w ρ d b rv mv S k m last ml f w':=by
 obtain⟨v,o,q,y,x,r,s,j⟩:=h;exact⟨v,o,q,y,(l.up).tt x,fun i hi=>r i (ZA hi l.size),fun g hg=>(s g hg).imp id (fun t=>ZR l.size t),fun p n c e=>(j p n c e).imp id (fun t=>ZR l.size t)⟩
theorem yz.down{o:World}(h:yz E B w ρ d b rv mv S k m last ml false o):∃ rv1 mv1,o.heap[b]?=some (.cells (Z9 d m rv1 last mv1 false) 121 (0,0))/\Xb E B o /\
 ∀ w2,w2.heap[b]?=some (.cells (Z9 d m rv1 last mv1 true) 121 (0,0))->ja o w2 (fun i=>i=b)->yz E B w ρ d b rv mv S k m last ml true w2:=by
 obtain⟨F,s,v,f,q,y,A,l⟩:=h;refine⟨s,v,f.row,f.xl.z8,fun w2 hrow kk=>?_⟩;have D:Dk E B w2 F d S:=⟨f.xl.rep.keep kk (fun i e _=>by rw[e];exact f.nb.1),f.xl.z8.keep kk (fun i e=>by rw[e];exact f.nb.2),f.xl.yx,ZR f.xl.size kk.size⟩;obtain⟨C,r,u,H,J,x,z,j⟩:=f.next (kk.mono (fun i _ t=> .inr t)) (fun _ _=>rfl) D f.fit hrow;refine⟨C,r,u,H,q.trans kk (fun i _ t=> .inr (.inl t)),fun i hi=>(x i (ZA hi q.size)).trans (y i hi),fun g hg=>?_,fun p n c e=>?_⟩
 ·rcases z g hg with t|t
  ·exact A g t
  ·exact .inr (ZR q.size t)
 ·rcases j p n c e with⟨G,I,t⟩|t
  ·exact l p G I t
  ·exact .inr (ZR q.size t)
theorem sk{g:World}{v:Value}{j:Bool}(h:yz E B w ρ d b rv mv S k m last ml false g)(n:jb2 E g (.returned v) j):Calls prog 67 #[.pointer (some ⟨b,0,none⟩),v] g (tt E B w ρ d b rv mv S k m last ml j):=by
 rcases n with⟨rfl,e⟩|⟨rfl,v',e,o⟩
 ·cases e
  refine(I0 b).mono ?_;rintro e i ⟨rfl,rfl⟩;exact⟨rfl,h⟩
 ·cases e
  obtain⟨r,s,f,q,p⟩:=h.down;refine(I1 f q o (by decide)).mono ?_;rintro e i ⟨rfl,c,l⟩;exact⟨rfl,p i c l⟩
def Td(E:Nat->Addr)(B:Nat)(w:World)(ρ:Nat->j3)(d b:Nat)(rv mv:Value)(S:jc)(k:Nat)(m:Rf.Man)(last:Nat)(ml:List Rf.Ch)(e:Ending)(w':World):Prop :=
 ∃ S1 ok1,rk m last ml S S1 ok1 /\
  ((ok1=false/\tt E B w ρ d b rv mv S1 (k+70000) m last ml false e w') \/
   (ok1=true/\tt E B w ρ d b rv mv (jc.jr [jh m.log] S1).1 (k+70000) (m.yh last) last [] (jc.jr [jh m.log] S1).2 e w'))
theorem Hz{f:World}{v:Value}(h:Yz E B w ρ d b rv mv S k m last ml (.returned v) f):Calls prog 67 #[.pointer (some ⟨b,0,none⟩),v] f (Td E B w ρ d b rv mv S k m last ml):=by
 obtain⟨g,n,r,⟨rfl,⟨v',e,l⟩,h⟩|⟨rfl,j,h⟩⟩:=h
 ·refine(sk h (.inr ⟨rfl,v',e,l⟩)).mono ?_
  intro e i c;exact⟨g,false,r,.inl ⟨rfl,c⟩⟩
 ·refine(sk h j).mono ?_
  intro e i c;exact⟨g,true,r,.inr ⟨rfl,c⟩⟩
theorem Yz.ret{e:Ending}{c:World}(h:Yz E B w ρ d b rv mv S k m last ml e c):∃ v,e = .returned v:=by
 obtain⟨j,g,r,⟨_,⟨v',e,i⟩,h⟩|⟨_,f,h⟩⟩:=h
 ·exact⟨v',e⟩
 ·rcases f with⟨_,e⟩|⟨_,v',e,_⟩
  ·exact⟨_,e⟩
  ·exact⟨_,e⟩
theorem Yz.before{g:World}{e:Ending}(i:ja w g (fun _=>False))(h:Yz E B g ρ d b rv mv S k m last ml e w'):Yz E B w ρ d b rv mv S k m last ml e w':=by
 obtain⟨j,c,r,⟨f,n,h⟩|⟨f,l,h⟩⟩:=h
 ·exact⟨j,c,r,.inl ⟨f,n,h.before i⟩⟩
 ·exact⟨j,c,r,.inr ⟨f,l,h.before i⟩⟩
theorem On(T:StM E B w ρ d b S k m last ml false rv mv)(g:last=m.last) :
 Calls prog 26 #[.pointer (some ⟨b,0,none⟩)] w fun e w'=>e = .returned (.int .i64 0)/\yz E B w ρ d b rv mv S k m last ml false w':=by
 have c:=T.row;have j:=zA (o:=2) c;have i:=zA (o:=6) c;simp at j i;rw[g] at i;have f:=jb c;clear c g;go_enter func26,ntmps26;go_wp2_with fail;refine(Qa f.out).mono ?_;rintro e l ⟨rfl,rfl⟩;rw[show Xp false false=0 from rfl];go_wp2_with fail;go_quiet (fail);go_wp2;go_ret;exact⟨rfl,yz.still T (ja.drewN _ _ _) (ZQ _)⟩
theorem Om(T:StM E B w ρ d b S k m last ml false rv mv)(n:m.last<last)(i:∀ W,ja w W (fun _=>False)->Calls prog 68 #[.pointer (some ⟨b,0,none⟩)] W (Yz E B W ρ d b rv mv S k m last ml)) :
 Calls prog 26 #[.pointer (some ⟨b,0,none⟩)] w (Td E B w ρ d b rv mv S k m last ml):=by
 have c:=T.row;have v:=zA (o:=2) c;have u:=zA (o:=6) c;simp at v u;have j:=jb c;clear c;obtain⟨l,g⟩:∃ l,l=m.last:=⟨_,rfl⟩;obtain⟨ls,f⟩:∃ ls,ls=last:=⟨_,rfl⟩;rw[<-g] at v n;rw[<-f] at u n;have C:((ls:Int)==(l:Int))=false:=by simp;omega
 have x:¬((ls:Int)=(l:Int)):=by omega
 have s:=jb i;clear i g f n;go_enter func26,ntmps26;go_wp2_with fail;refine(Qa j.out).mono ?_;rintro e G ⟨rfl,rfl⟩;rw[show Xp false false=0 from rfl];go_wp2_with fail;go_quiet (fail);go_wp2_with fail;refine(s.out _ (ja.drewN _ _ _)).mono ?_;intro e F q;obtain⟨H,rfl⟩:=q.ret;have z:=jb (Hz (q.before (ja.drewN _ _ _)));clear q;go_wp2_with fail;refine z.out.mono ?_;intro e D p;have y:=jb p
 obtain⟨t,rfl⟩:∃ t,e = .returned t:=by
  obtain⟨I,A,r,⟨_,h⟩|⟨_,h⟩⟩:=p
  ·exact⟨_,h.1⟩
  ·exact⟨_,h.1⟩
 clear p;go_wp2;go_ret;exact y.out
def Ka(E:Nat->Addr)(B:Nat)(w:World)(ρ:Nat->j3)(d b:Nat)(rv mv:Value)(S:jc)(k:Nat)(m:Rf.Man)(last:Nat)(ml l:List Rf.Ch)(e:Ending)(w':World):Prop :=
 ∃ S0,xi S S0 /\
  ((¬qh S/\tt E B w ρ d b rv mv S0 (k+100000) m last ml false e w') \/
   ∃ S1 ok1,Qj m l S0 S1 ok1 /\
    ((ok1=false/\tt E B w ρ d b rv mv S1 (k+100000) m last ml false e w') \/
     (ok1=true/\tt E B w ρ d b rv mv (jc.jr (m.settled.map jo) S1).1 (k+100000) (m.Xh l) last ml (jc.jr (m.settled.map jo) S1).2 e w')))
theorem Bv{l:List Rf.Ch}{n:World}{v:Value}(h:Xv E B w ρ d b rv mv S k m last ml l (.returned v) n):Calls prog 67 #[.pointer (some ⟨b,0,none⟩),v] n (Ka E B w ρ d b rv mv S k m last ml l):=by
 obtain⟨i,g,⟨p,⟨v',e,f⟩,h⟩|⟨o,s,r,⟨rfl,⟨v',e,f⟩,h⟩|⟨rfl,q,h⟩⟩⟩:=h
 ·refine(sk h (.inr ⟨rfl,v',e,f⟩)).mono ?_
  intro e j c;exact⟨i,g,.inl ⟨p,c⟩⟩
 ·refine(sk h (.inr ⟨rfl,v',e,f⟩)).mono ?_
  intro e j c;exact⟨i,g,.inr ⟨o,false,r,.inl ⟨rfl,c⟩⟩⟩
 ·refine(sk h q).mono ?_
  intro e j c;exact⟨i,g,.inr ⟨o,true,r,.inr ⟨rfl,c⟩⟩⟩
theorem Xv.ret{l:List Rf.Ch}{e:Ending}{c:World}(h:Xv E B w ρ d b rv mv S k m last ml l e c):∃ v,e = .returned v:=by
 obtain⟨p,n,⟨j,⟨v',e,g⟩,h⟩|⟨o,i,r,⟨_,⟨v',e,g⟩,h⟩|⟨_,f,h⟩⟩⟩:=h
 ·exact⟨v',e⟩
 ·exact⟨v',e⟩
 ·rcases f with⟨_,e⟩|⟨_,v',e,_⟩
  ·exact⟨_,e⟩
  ·exact⟨_,e⟩
theorem I9(T:StM E B w ρ d b S k m last ml false rv mv)(i:m.runs=[]) :
 Calls prog 27 #[.pointer (some ⟨b,0,none⟩)] w fun e w'=>e = .returned (.int .i64 0)/\yz E B w ρ d b rv mv S k m last ml false w':=by
 have c:=T.row;obtain⟨n,p,f,_⟩:=id T.runs;have j:=zA (o:=5) c;simp at j;have g:=jb c;clear c;rw[f,i] at j;clear i f;go_enter func27,ntmps27;go_wp2_with fail;refine(Qa g.out).mono ?_;rintro e l ⟨rfl,rfl⟩;rw[show Xp false false=0 from rfl];go_wp2;go_ret;exact⟨rfl,yz.still T (ja.refl _ _) (ZQ _)⟩
theorem I8{l:List Rf.Ch}(T:StM E B w ρ d b S k m last ml false rv mv)(v:m.runs≠[])(j:Calls prog 69 #[.pointer (some ⟨b,0,none⟩)] w (Xv E B w ρ d b rv mv S k m last ml l)) :
 Calls prog 27 #[.pointer (some ⟨b,0,none⟩)] w (Ka E B w ρ d b rv mv S k m last ml l):=by
 have c:=T.row;obtain⟨I,J,g,_⟩:=id T.runs;have s:=zA (o:=5) c;simp at s;have n:=jb c;clear c;have f:=ZY.2 v;rw[g] at s;obtain⟨ls,i⟩:∃ ls,ls=m.runs.length:=⟨_,rfl⟩;rw[<-i] at s f;have C:((ls:Int)==0)=false:=by simp;omega
 have x:¬((ls:Int)=0):=by omega
 have t:=jb j;clear i f v g j;go_enter func27,ntmps27;go_wp2_with fail;refine(Qa n.out).mono ?_;rintro e G ⟨rfl,rfl⟩;rw[show Xp false false=0 from rfl];go_wp2_with fail;refine t.out.mono ?_;intro e F q;obtain⟨H,rfl⟩:=q.ret;have z:=jb (Bv q);clear q;go_wp2_with fail;refine z.out.mono ?_;intro e D p;have y:=jb p
 obtain⟨u,rfl⟩:∃ u,e = .returned u:=by
  obtain⟨M,_,⟨_,h⟩|⟨L,A,r,⟨_,h⟩|⟨_,h⟩⟩⟩:=p
  ·exact⟨_,h.1⟩
  ·exact⟨_,h.1⟩
  ·exact⟨_,h.1⟩
 clear p;go_wp2;go_ret;exact y.out
end Go.Proofs.YtnipbplghijdmaaGreatDoor
namespace Go.Proofs.YtnipbplghijdmaaGreatDoor
open RowKit Maps WideShapes Go.Proofs.Tryz
def Rf.Man.xr(m:Rf.Man):Rf.Man:=⟨m.next+1,m.last,m.next,m.base,m.runs⟩
theorem Rf.Man.Good.xr{m:Rf.Man}(h:m.Good)(d:m.next+1<=2000000000):m.xr.Good:=by
 obtain⟨o,k,i,j⟩:=h;have f:∀ n∈m.settled,1<=n/\n<m.next:=fun n d=>i n (xX _ d);have l:=i m.log (xY _ (ZW.2 rfl));refine⟨d,k,fun n c=>?_,?_⟩
 ·show 1<=n/\n<m.next+1
  rcases ZV.1 c with c|c
  ·have:=f n c
   omega
  ·have e:n=m.next:=ZW.1 c
   omega
 ·have g:(m.settled++[m.log]).Nodup:=j
  show(m.settled++[m.next]).Nodup;rw[List.nodup_append] at g ⊢;refine⟨g.1,by simp,fun a ha b hb=>?_⟩;have:=f a ha;have e:b=m.next:=ZW.1 hb;omega
def Bm(m:Rf.Man)(fr:List UInt8):DStep:=na [Xk (jh m.next) fr,yr m.xr]
variable {E:Nat->Addr} {B:Nat} {w w':World} {ρ:Nat->j3} {d b k:Nat} {S:jc} {m:Rf.Man} {last:Nat} {ml:List Rf.Ch} {deg:Bool} {rv mv:Value}
theorem StM.jg9{q:Nat->j3}{S':jc}{k':Nat}{m2:Rf.Man}(h:StM E B w ρ d b S k m last ml deg rv mv)(v:m2.runs=m.runs)(f:m2.Good)(j:ja w w' (fun i=>ρ i≠ .none\/i=b))(o:∀ i,i<w.heap.size->q i=ρ i)(D:Dk E B w' q d S')(F:Fit k' S')(l:w'.heap[b]?=some (.cells (Z9 d m2 rv last mv deg) 121 (0,0))) :
 yz E B w ρ d b rv mv S' k' m2 last ml deg w':=by
 have z:ja w w' (StF ρ b mv):=j.mono (fun i _ t=>t.elim .inl (fun t=> .inr (.inl t)));refine⟨q,rv,mv,⟨h.env.keep j (fun i t=>t.elim (fun t=>h.xl.yx i t) (fun t=>by rw[t];exact h.nb.2)),D,F,l,by rw[v];exact h.runs.keep j (fun _ p n c e t=>by obtain⟨u,s,y,x,r⟩:=h.nr p n c e;exact t.elim (fun t=>t u) s),j.row h.mem (fun g f t=>?_),⟨(o b h.blt).trans h.nb.1,h.nb.2⟩,fun p n c e=>?_,fun g f=>?_,f,h.rising,h.few,by rw[v];exact h.au⟩,z,o,fun g f=> .inl f,fun p n c e=> .inl ⟨n,c,e⟩⟩
 ·exact t.elim (fun t=>t (h.nm g f).1) (fun t=>(h.nm g f).2 t)
 ·obtain⟨u,s,y,x,r⟩:=h.nr p n c e
  exact⟨(o _ r).trans u,s,y,x,ZA r j.size⟩
 ·exact⟨(o g (h.mem.lt g f).2).trans (h.nm g f).1,(h.nm g f).2⟩
def jb1(E:Nat->Addr)(B:Nat)(w:World)(ρ:Nat->j3)(d b:Nat)(rv mv:Value)(S:jc)(k:Nat)(m:Rf.Man)(last:Nat)(ml:List Rf.Ch)(fr:List UInt8)(e:Ending)(w':World):Prop :=
 ∃ S' ok,Bm m fr S S' ok/\jb2 E w' e ok/\yz E B w ρ d b rv mv S' (k+70000) (if ok=true then m.xr else m) last ml false w'
theorem Ty(T:StM E B w ρ d b S k m last ml false rv mv)(hk:k<530000000000)(hn:m.next+1<=2000000000)(fv:Value)(fr:List UInt8)(ae:Bytes w fv fr)(Y:Off ρ fv)(aw:fr.length<=20000)(aq:m.bytes.length<=20000) :
 Calls prog 181 #[.pointer (some ⟨b,0,none⟩),fv] w (jb1 E B w ρ d b rv mv S k m last ml fr):=by
 obtain⟨U,X,al,bv⟩:=id T.runs;have ba:∃ n,rv = .slice U n X:=⟨_,al⟩;clear al bv;obtain⟨nr,rfl⟩:=ba;obtain⟨n1,Z⟩:∃ n1,n1=m.next+1:=⟨_,rfl⟩;have b1:=jb Z;clear Z;obtain⟨pf,cf,rfl,bc⟩:=id ae;clear bc;have f:=T.row;have c1:=zA (o:=1) f;have c2:=zA (o:=2) f;have c3:=zA (o:=3) f;have c4:=zA (o:=4) f;have c5:=zA (o:=5) f;simp at c1 c2 c3 c4 c5;obtain⟨y,hy⟩:∃ y,y=w.heap.size:=⟨_,rfl⟩;obtain⟨w1,N⟩:∃ w1,w1=w.alloc (.cells #[jg m.next,jg m.last,jg m.log,jg m.base,.slice U nr X] 117):=⟨_,rfl⟩;have k1:ja w w1 (fun _=>False):=by rw[N];exact ja.alloc _ _ _
 have ay:w1.heap[y]?=some (.cells #[jg m.next,jg m.last,jg m.log,jg m.base,.slice U nr X] 117 (0,0)):=by rw[N,hy];exact je _ _
 have D:=Z8 ay (by omega);rw[<-b1.out] at D;have bd:=jb D;have HY:=jb hy;have HN:=jb hn;have HK:=jb hk;have cp:=jb f;have b4:=jb ae;have a7:=jb Y;have r:=jb aw;have c7:=jb aq;obtain⟨nf,ac⟩:∃ nf,nf=fr.length:=⟨_,rfl⟩;rw[<-ac] at b4 a7 ⊢;have d8:=jb ac;clear D ay hy hn hk f ae Y aw aq ac;go_enter func181,ntmps181;go_wp2_with fail;rw[<-N,<-HY.out];clear N c1 c2 c3 c4 c5;refine bd.out.mono ?_;rintro e w2 ⟨rfl,O,k2⟩;have bs:ja w w2 (fun _=>False):=k1.trans k2 (fun i hi e=>by have:=HY.out;omega);have z2:=zA (o:=2) O;have q2:=zB (o:=2) O;simp at z2;obtain⟨A,M⟩:∃ A,A=w2.setCell ⟨y,2,none⟩ (jg m.next):=⟨_,rfl⟩;have bu:w.heap.size<=y:=by rw[HY.out];exact ZQ _
 have l:ja w A (fun _=>False):=by rw[M];exact bs.Q8 bu _
 have af:A.heap[y]?=some (.cells #[jg n1,jg m.last,jg m.next,jg m.base,.slice U nr X] 117 (0,0)):=by rw[M];exact(jd O _).trans rfl
 have u:=T.same l;have d0:=zA (o:=0) u.row;have x:=zA (o:=2) af;simp at d0 x;have d0:A.drew.cell? ⟨b,0,none⟩=some (.pointer (some ⟨d,0,none⟩)):=d0;have x:A.drew.cell? ⟨y,2,none⟩=some (jg m.next):=x;have ad:m.next<=9223372036854775807:=by have:=HN.out;omega
 have av:∀ W,ja A W (fun _=>False)->Calls prog 63 #[j7 m.next] W fun e w'=>e = .returned (jf (jh m.next))/\ja W w' (fun _=>False):=fun W V=>Qr m.next ad (u.env.same V);have an:(jh m.next).length<100:=by have:=yj ad;unfold jh;simp only[ZC,zP,zQ];omega
 have ar:∀ W,ja A W (fun _=>False)->Calls prog 114 #[.pointer (some ⟨d,0,none⟩),jf (jh m.next),.slice pf nf cf] W fun e w'=>∃ aa,e = .returned aa/\b8 E B A ρ d S (Xk (jh m.next) fr) (.returned aa) w':=fun W V=>by
  refine(tj (u.xl.same V) u.fit (jh m.next) (Js _) _ fr ((b4.out.same l).same V) a7.out (by have:=HK.out;have:=r.out;omega)).mono ?_;intro e w' h;exact(h.before (xy.of V (fun _ _ h=>h.elim))).ret
 have b3:=jb av;have b2:=jb ar;have c0:=jb af;have R:=jb an;have kd:ja A A.drew (fun _=>False):=ja.drew _ _;clear av ar O af an ad;obtain⟨ln,F⟩:∃ ln,ln=jh m.next:=⟨_,rfl⟩;rw[<-F] at b3 b2 R;have q:=jb F;clear F;go_wp2_with fail;rw[<-M];clear M z2 q2
 go_cut [8] from 9 (fun s8 wd=>b8 E B A ρ d S (Xk ln fr) (.returned s8) wd)
 case first =>
  go_region_law (first
   | (refine jz rfl 63 [.tmp 28] _ rfl Jv [j7 m.next] (by simp[Act.eval,Act.put]) (b3.out _ kd) ?_
      rintro e d6 ⟨rfl,ab⟩
      have d0:=ab.cell d0 id
      have x:=ab.cell x id
      have kd:=kd.tt ab
      refine⟨_,rfl,?_⟩)
   | (refine jz rfl 114 [.tmp 26,.tmp 29,.tmp 30] _ rfl dm [.pointer (some ⟨d,0,none⟩),jf ln,.slice pf nf cf] (by simp[Act.eval,Act.put]) (b2.out _ kd) ?_
      rintro e d5 ⟨aa,rfl,bx⟩
      refine⟨_,rfl,?_⟩))
  all_goals
   go_wp2;go_meet
  all_goals exact bx
 case rest =>
  have a0:ln≠[]:=by rw[q.out];exact Js _
  obtain⟨S4,d7,R4,ρ4,L,D4,⟨j,e4⟩|⟨j,v4,e4,ax⟩⟩:=hcut
  rotate_left
  ·simp only at j
   subst j;cases e4;have F4:=u.fit.Ef a0 R4;obtain⟨t4,a4,rfl⟩:=ax.shape;have h1:=R.out;have h2:=r.out;go_wp2;go_ret;exact⟨S4,false,.inl ⟨by rw[<-q.out];exact R4,rfl⟩,.inr ⟨rfl,_,rfl,ax⟩,T.gone l L D4 (F4.mono (by omega))⟩
  simp only at j;subst j;cases e4;have F4:=u.fit.Ef a0 R4;have b0:=jb R4;clear R4;have bb:ρ y = .none:=yD (fun hn=>by have:=T.xl.rep.lt y hn;have:=HY.out;omega);obtain⟨H,bw⟩:=L.row u.row u.nb.1;obtain⟨z,_⟩:=L.row c0.out bb;have t0:=zA (o:=0) z;have t1:=zA (o:=1) z;have t2:=zA (o:=2) z;have t3:=zA (o:=3) z;have t4:=zA (o:=4) z;simp at t0 t1 t2 t3 t4;have az:=u.env.keep L.keeps (fun i t=>u.xl.yx i t);have J:=T.yy.xr HN.out;have I:Jw wc (.slice U nr X) m.runs:=u.runs.keep L.keeps (fun _ p n c e t=>t (u.nr p n c e).1)
  have ao:ij m.xr (.slice U nr X) = .agg #[jg n1,jg m.last,jg m.next,jg m.base,.slice U nr X]:=by
   rw[b1.out];rfl
  have G:=kt D4 F4 az m.xr J (by show m.runs.length<65536;have:=T.au;omega) (.slice U nr X) I (fun p n c e=>by
   obtain⟨a1,a2,a3,a4,a5⟩:=u.nr p n c e
   exact⟨(L.role _ a5).trans a1,a2⟩) H bw T.nb.2 (by have:=HK.out;have:=R.out;have:=r.out;omega)
  rw[ao] at G;have bf:=jb G;clear G I ao az H z d0 x
  have ap:m.xr.bytes.length<=20000:=by
   have h1:=ql m;have h2:=ql m.xr;have h3:m.xr.runs.length=m.runs.length:=rfl;have:=c7.out;omega
  have c6:=jb ap;clear ap;go_wp2_with fail;refine bf.out.mono ?_;rintro e br ⟨bz,C,bq,ag,bt,b7,b6,g,s⟩;have b5:=F4.yr ag
  obtain⟨ak,b9⟩:∃ ak,e = .returned ak:=by
   rcases g with⟨_,e⟩|⟨_,v,e,_⟩
   ·exact⟨_,e⟩
   ·exact⟨_,e⟩
  subst b9;have V:ja w br (fun i=>ρ i≠ .none\/i=b):=(((l.up).trans L.keeps (fun i _ h=> .inl h)).trans bt (fun i hi h=>h.imp (fun h=>by rw[<-L.role i (ZA hi l.size)];exact h) id));have am:∀ i,i<w.heap.size->bq i=ρ i:=fun i hi=>(b7 i (ZA hi (ZR l.size L.keeps.size))).trans (L.role i (ZA hi l.size));have a6:=jb ag;have be:=jb g;clear ag g;go_wp2;go_ret;have h1:=R.out;have h2:=r.out;have h3:=c6.out;refine⟨bz,C,?_,be.out,?_⟩
  ·cases C with
   | true=>exact .inr ⟨_,by rw[<-q.out];exact b0.out,.inr ⟨_,a6.out,rfl,rfl⟩⟩
   | false=>exact .inr ⟨_,by rw[<-q.out];exact b0.out,.inl ⟨a6.out,rfl⟩⟩
  ·cases C with
   | true=>exact T.jg9 rfl J V am b6 (b5.mono (by omega)) s
   | false=>exact T.next V am b6 (b5.mono (by omega)) s
end Go.Proofs.YtnipbplghijdmaaGreatDoor
namespace Go.Proofs.YtnipbplghijdmaaGreatDoor
open RowKit Maps WideShapes Go.Proofs.Tryz
variable {E:Nat->Addr} {B b d k:Nat} {w w':World} {m m2:Rf.Man} {bls bs:List (List Rf.Ch)} {R:DStep} {ml:List Rf.Ch} {e:Ending}
def gw(E:Nat->Addr)(B:Nat)(w:World)(ρ:Nat->j3)(d b:Nat)(S:jc)(k:Nat)(m:Rf.Man)(last:Nat)(ml:List Rf.Ch)(w':World):Prop :=
 ∃ ρ' rv mv,StM E B w' ρ' d b S k m last ml false rv mv/\ja w w' (fun i=>ρ i≠ .none\/i=b)/\(∀ i,i<w.heap.size->ρ' i=ρ i)/\(∀ g,mv.ownBlock=some g->w.heap.size<=g)/\(∀ p n c,rv = .slice (some p) n c->w.heap.size<=p.block)
def C5(w:World)(b:Nat):Prop:=∃ dv a1 a2 a3 a4 a5 la mv deg cl,w.heap[b]?=some (.cells (qu dv a1 a2 a3 a4 a5 la mv deg cl) 121 (0,0))
def jhh(E:Nat->Addr)(B:Nat)(w:World)(ρ:Nat->j3)(d b:Nat)(S:jc)(k:Nat)(w':World):Prop :=
 ∃ ρ',Dk E B w' ρ' d S/\Fit k S/\ja w w' (fun i=>ρ i≠ .none\/i=b)/\(∀ i,i<w.heap.size->ρ' i=ρ i)/\C5 w' b
def sq(E:Nat->Addr)(B:Nat)(w:World)(ρ:Nat->j3)(d b:Nat)(S:jc)(k:Nat)(e:Ending)(w':World):Prop :=
 (∃ v,e = .returned v/\Err E w' v 1)/\jhh E B w ρ d b S k w'
def ju(m:Rf.Man):List Str:=jt m++[Ew]
def Qu(E:Nat->Addr)(B:Nat)(w:World)(ρ:Nat->j3)(d b:Nat)(S:jc)(k:Nat)(R:DStep)(m2:Rf.Man)(last:Nat)(ml:List Rf.Ch)(e:Ending)(w':World):Prop :=
 ∃ S1,xi S S1/\((¬qh S/\sq E B w ρ d b S1 k e w') \/
  ∃ S2 ok2,R S1 S2 ok2/\((ok2=false/\sq E B w ρ d b S2 k e w') \/
   (ok2=true/\(((jc.zj (ju m2) S2).2=true/\e = .returned .nilIface/\gw E B w ρ d b (jc.zj (ju m2) S2).1 k m2 last ml w') \/
    ((jc.zj (ju m2) S2).2=false/\sq E B w ρ d b (jc.zj (ju m2) S2).1 k e w')))))
theorem Nj{ρ:Nat->j3}{SD:jc}(D:Dk E B w ρ d SD)(F:Fit k SD)(H:Env E B w)(hk:k<400000000000)(ok:(⟨m,bs,bls⟩:Rf.St).Ok)(cu:∀ p∈qn m.settled bls,At SD p.1 (fun a=>a.bytes=p.2))(cp:At SD (jh m.log) (fun a=>a.bytes=Rf.jk m.last bs))(bd:m.bytes.length<=20000/\(Rf.jk m.last bs).length<=20000)(b5:(Rf.memory bs).length<60000)(ag:m.runs.length<60000)(hb:w.heap[b]?=some (.cells (newRow d) 121 (0,0)))(J:ρ b = .none)(Y:B<=b)(vm:Value)(cd:Bytes w vm m.bytes) :
 Calls prog 131 #[.pointer (some ⟨b,0,none⟩),vm] w fun e w'=>Qu E B w ρ d b SD (2*k+300000) (Fn (jc.xu (ju m))) m (m.last+bs.length) (Rf.memory bs) e w':=by
 have ce:m.runs.length<65535:=ok.runs;have y:m.Good:=ok.yy;have db:=y.log;have ek:=y.1;have em:=ql m;have da:=bd.1;have O:=kh D.z8 D.size cd (by omega);rw[Rf.uj y (by omega)] at O;obtain⟨pm,cm,rfl,_⟩:=id cd;have bv:=jb O;have HB:=jb hb;have HK:=jb hk;have ev:=jb bd;have HF:=jb b5;have fe:=jb cu;have f9:=jb cp;have ew:=jb ag;have d2:Hid (m.log<=9223372036854775807):=jb (by omega);have bp:=jb ce;have b0:∀ n∈m.settled,n<=9223372036854775807:=fun n u=>by have h0:n<m.next:=(ok.Bh u).2;omega
 have dd:=jb b0;clear O hb hk bd ce y db ek em da b0 b5 cu cp ag;go_enter func131,ntmps131;go_wp2_with fail;refine bv.out.mono ?_;rintro e w1 ⟨k1,⟨m1,S,T,bi,rfl,al⟩|⟨v1,bi,_⟩⟩
 rotate_left
 ·cases bi
 cases bi;obtain⟨A,bh⟩:∃ A,A=m.runs.length:=⟨_,rfl⟩;rw[<-bh] at al ⊢;obtain⟨x,hx⟩:∃ x,x=w1.heap.size:=⟨_,rfl⟩;obtain⟨w2,a3⟩:∃ w2,w2=w1.alloc (.cells #[jg m.next,jg m.last,jg m.log,jg m.base,.slice S A T] 117):=⟨_,rfl⟩;have k2:ja w w2 (fun _=>False):=by rw[a3];exact k1.more _
 have M:w2.heap[x]?=some (.cells #[jg m.next,jg m.last,jg m.log,jg m.base,.slice S A T] 117 (0,0)):=by rw[a3,hx];exact je _ _
 have ci:w2.ownsRow w.heap.size 3 1 (.slice S A T) A (m.runs.map jg):=by rw[a3];exact al.alloc _
 have l:=k2.same HB.out id;have gg:=zC HB.out;have hu:w.heap.size<=x:=by rw[hx];exact k1.size
 have a5:∀ g,(Value.slice S A T).ownBlock=some g->w.heap.size<=g/\g<x:=fun g hg=>by rw[hx];exact al.lt g hg
 have x0:=zA (o:=0) M;have x1:=zA (o:=1) M;have x2:=zA (o:=2) M;have x3:=zA (o:=3) M;have x4:=zA (o:=4) M;have y1:=zA (o:=1) l;have y2:=zA (o:=2) l;have y3:=zA (o:=3) l;have y4:=zA (o:=4) l;have y5:=zA (o:=5) l;have y6:=zA (o:=6) l;have f1:=zB (o:=1) l;have f2:=zB (o:=2) l;have f3:=zB (o:=3) l;have f4:=zB (o:=4) l;have f5:=zB (o:=5) l;have f6:=zB (o:=6) l;simp at x0 x1 x2 x3 x4 y1 y2 y3 y4 y5 y6;have HX:=jb hx;have d1:=jb bh;have eu:=jb M;have fd:=jb l;have f0:=jb ci;have D2:=D.same k2;have E2:=H.same k2;clear hx bh M l al ci;go_wp2_with fail;rw[<-a3,<-HX.out];clear a3
 go_cut [] from 10 (fun wd=>wd.heap[b]?=some (.cells (qu (.pointer (some ⟨d,0,none⟩)) (jg m.next) (jg m.last) (jg m.log) (jg m.base) (.slice S A T) (jg m.last) (.slice none 0 0) false false) 121 (0,0))/\ja w2 wd (fun i=>i=b))
 case first =>
  go_region
  all_goals
   go_wp2;go_meet
  all_goals
   have hh:∀ W:World,W.drew.heap=W.heap:=fun _=>rfl;refine⟨?_,ja.draw ?_⟩
   ·rw[hh]
    exact(jd (jd (jd (jd (jd (jd fd.out _) _) _) _) _) _).trans rfl
   ·exact(((((ja.setCell w2 ⟨b,1,none⟩ _).set (p:=⟨b,2,none⟩) rfl _).set (p:=⟨b,3,none⟩) rfl _).set (p:=⟨b,4,none⟩) rfl _).set (p:=⟨b,5,none⟩) rfl _).set (p:=⟨b,6,none⟩) rfl _
 case rest =>
  obtain⟨bm,k3⟩:=hcut;clear x0 x1 x2 x3 x4 y1 y2 y3 y4 y5 y6 f1 f2 f3 f4 f5 f6;have D3:Dk E B wc ρ d SD:=⟨D2.rep.keep k3 (fun i e _=>by rw[e];exact J),D2.z8.keep k3 (fun i e=>by rw[e];exact Y),D2.yx,ZR D2.size k3.size⟩;have E3:Env E B wc:=E2.keep k3 (fun i e=>by rw[e];exact Y);have ec:x≠b:=by omega
  have cx:=k3.same eu.out ec;have bg:=k3.row f0.out (fun g hg e=>by have:=(a5 g hg).1;have e':g=b:=e;omega);have e7:ρ x = .none:=yD (fun u=>by have:=D.rep.lt x u;omega);have ca:∀ g,(Value.slice S A T).ownBlock=some g->ρ g = .none:=fun g hg=>yD (fun u=>by have:=D.rep.lt g u;have:=(a5 g hg).1;omega);have cj:Jw wc (.slice S A T) m.runs:=Jz bg d1.out.symm;have a2:ja w wc (fun i=>i=b):=(k2.up).trans k3 (fun i _ e=>e);have hP:Ba m bls k SD:=⟨F,fe.out⟩;have cs:=u1 m (.slice S A T) (jg m.last) (.slice none 0 0) false false (bls.map Rf.chunks) E3 D3 hP (o7 ok.yy ok.len ok.bl (by have:=HK.out;omega)) bm cj (by have:=bp.out;omega);have fb:=jb cs;have ar:=jb bm;have cz:=jb cx;have ez:=jb bg;clear cs bm cx bg cj hP;go_wp2_with fail;refine fb.out.mono ?_;rintro e U ⟨k4,D4,_,eo⟩;have g4:xy wc ρ U ρ:=⟨k4,fun _ _=>rfl⟩;obtain⟨N,V⟩:=Ma [] (bls.map Rf.chunks) SD;have cb:ja w U (fun i=>ρ i≠ .none\/i=b):=(a2.mono (fun i _ h=>(Or.inr h:ρ i≠ .none\/i=b))).trans g4.keeps (fun i _ h=> .inl h);rcases eo with⟨X,rfl⟩|⟨gh,hz,X,rfl,ao⟩
  rotate_left
  ·rcases V with V|⟨V,el⟩
   ·rw[V] at X;cases X
   ·rw[V] at X
    cases X;have ao:=ao.xl;obtain⟨t4,a4,rfl⟩:=ao.shape;have en:=N.fit F;go_wp2;go_ret;exact⟨_,N,.inl ⟨el,⟨_,rfl,ao⟩,ρ,D4,en.mono (by omega),cb,fun _ _=>rfl,_,_,_,_,_,_,_,_,_,_,(g4.row ar.out J).1⟩⟩
  clear V X cb;generalize (Qs (xx (bls.map Rf.chunks) []) SD).1=S4 at D4 N;have F4:=N.fit F;have aq:=jb N;have dh:=jb (N.at f9.out);clear N;obtain⟨bk,_⟩:=g4.row ar.out J;obtain⟨cw,_⟩:=g4.row cz.out e7;have E4:=E3.keep g4.keeps (fun i t=>D3.yx i t);have z:=zA (o:=0) bk;have z2:=zA (o:=2) cw;simp at z z2;obtain⟨lo,a8⟩:∃ lo,lo=m.log:=⟨_,rfl⟩;rw[<-a8] at z2;have z:U.drew.cell? ⟨b,0,none⟩=some (.pointer (some ⟨d,0,none⟩)):=z;have z2:U.drew.cell? ⟨x,2,none⟩=some (jg lo):=z2;obtain⟨L,hL⟩:∃ L,L=Rf.jk m.last bs:=⟨_,rfl⟩;have b3:At S4 (jh lo) (fun a=>a.bytes=L):=by rw[a8,hL];exact dh.out
  have b4:L.length<=20000:=by rw[hL];exact ev.out.2
  have ae:lo<=9223372036854775807:=by rw[a8];exact d2.out
  have co:∀ W,ja U W (fun _=>False)->Calls prog 63 #[j7 lo] W fun e w'=>e = .returned (jf (jh lo))/\ja W w' (fun _=>False):=fun W s=>Qr lo ae (E4.same s)
  have cf:∀ W,ja U W (fun _=>False)->Calls prog 129 #[.pointer (some ⟨d,0,none⟩),jf (jh lo)] W fun e w'=>∃ x6 v6,e = .returned (.tuple #[x6,v6])/\xy U ρ w' ρ/\Dk E B w' ρ d (S4.called false)/\((∃ p c,x6 = .slice p L.length c/\v6 = .nilIface/\w'.ownsRow U.heap.size 5 1 (.slice p L.length c) L.length (L.map j5))\/(x6 = .slice none 0 0/\Err E w' v6 1/\¬qh S4)):=fun W s=>by
   obtain⟨f,a,hA,ha,ep⟩:=b3;refine(X9 (D4.same s) (F4.small (by have:=HK.out;omega)) (jh lo) (Xg ae)).mono ?_;rintro e w' ⟨g,D',⟨b6,v,rfl,he⟩|⟨_,hb,_⟩|⟨_,f',a',v,cy,cv,rfl,hr⟩⟩
   ·exact⟨_,_,rfl,(xy.of s (fun _ _ h=>h.elim)).trans g,D',.inr ⟨rfl,he,fun w=>by rw[w.bad] at b6;cases b6⟩⟩
   ·rw[hA] at hb;cases hb
   ·rw[hA] at cy;cases cy
    rw[ha] at cv;cases cv;rw[ep] at hr;obtain⟨p,c,rfl⟩:=jm hr;exact⟨_,_,rfl,(xy.of s (fun _ _ h=>h.elim)).trans g,D',.inl ⟨p,c,rfl,rfl,q7 hr s.size⟩⟩
  have d3:=jb co;have bq:=jb cf;have gi:=jb a8;have fa:=jb hL;have fc:=jb bk;have dg:=jb b4;have C:ja U U.drew (fun _=>False):=ja.drew _ _;clear co cf a8 hL b3 b4 ae bk cw;have F6:=F4.called false;generalize hS6:S4.called false=S6 at bq F6;have br:Hid (xi S4 S6):=jb (hS6▸xi.called S4);clear hS6;go_wp2_with fail
  go_cut [8,6] from 10 (fun s8 s6 wd=>xy U ρ wd ρ/\Dk E B wd ρ d S6/\((∃ p c,s8 = .slice p L.length c/\s6 = .nilIface/\wd.ownsRow U.heap.size 5 1 (.slice p L.length c) L.length (L.map j5))\/(s8 = .slice none 0 0/\Err E wd s6 1/\¬qh S4)))
  case first =>
   go_region_law (first
    | (refine jz rfl 63 [.tmp 38] _ rfl Jv [j7 lo] (by simp[Act.eval,Act.put]) (d3.out _ C) ?_
       rintro e w5 ⟨rfl,k5⟩
       have z:=k5.cell z id
       have C:=C.tt k5
       refine⟨_,rfl,?_⟩)
    | (refine jz rfl 129 [.tmp 36,.tmp 39] _ rfl oc [.pointer (some ⟨d,0,none⟩),jf (jh lo)] (by simp[Act.eval,Act.put]) (bq.out _ C) ?_
       rintro e w6 ⟨x6,v6,rfl,h6⟩
       refine⟨_,rfl,?_⟩))
   all_goals
    go_wp2;go_meet
   all_goals exact h6
  case rest =>
   obtain⟨g6,D6,⟨p6,c6,rfl,rfl,ch⟩|⟨rfl,cr,d9⟩⟩:=hcut
   rotate_left
   ·obtain⟨t6,a6,rfl⟩:=cr.shape
    have G:=g4.trans g6;have eb:ja w wc (fun i=>ρ i≠ .none\/i=b):=(a2.mono (fun i _ h=>(Or.inr h:ρ i≠ .none\/i=b))).trans G.keeps (fun i _ h=> .inl h);have er:=aq.out.trans br.out;go_wp2;go_ret;exact⟨_,er,.inl ⟨fun w=>d9 (aq.out.u9 w),⟨_,rfl,cr⟩,ρ,D6,F6.mono (by omega),eb,fun _ _=>rfl,_,_,_,_,_,_,_,_,_,_,(G.row ar.out J).1⟩⟩
   have G:=g4.trans g6;obtain⟨ct,_⟩:=G.row ar.out J
   have b2:=Gn b (.pointer (some ⟨d,0,none⟩)) (jg m.next) (jg m.last) (jg m.log) (jg m.base) (.slice S A T) (.bool false) (.bool false) m.last 121 (.slice none 0 0) (.slice p6 L.length c6) [] L w.heap.size wc D6.z8 Y (fun g hg=>by cases hg) ct (zY _ _ _ _) (fun h=>by cases h) List.Pairwise.nil
    (by have h1:L.length<=20000:=dg.out;simp only[zQ];omega) ok.yy.2.1 (x7 ch) (by have:=a2.size;have:=G.keeps.size;omega) (fun _ p n c e=>by
     have ap:(Value.slice p6 L.length c6).ownBlock=some p.block:=by rw[e];rfl
     have h1:=(ch.lt _ ap).1
     have h2:=zC fc.out
     exact⟨by omega,fun h=>by cases h⟩)
   have de:=jb b2;clear b2 ct z z2 C d3 bq;go_wp2_with fail;refine de.out.mono ?_;rintro e I ⟨i0,g',v7,hT,hO,rfl,bj,ak,hw,ej,k7⟩;have bn:=Rf.Lj (last:=m.last) ok.log (by have:=ok.cap;unfold Rf.St.last at this;exact this) [];rw[ZB,<-fa.out] at bn;obtain⟨e1,e2⟩:=Rf.Jl.unique hT hO bn (Rf.Xx _ _);have e1:=e1.symm;have e2:=e2.symm;subst e1;subst e2;rw[zQ,Nat.sub_zero];have cl:Rf.ax [] bs=Rf.memory bs:=rfl;rw[cl] at ak;have ht:=a2.size;have hq:=G.keeps.size;have hp:=k7.size
   have q:∀ g,v7.ownBlock=some g->U.heap.size<=g:=fun g hg=>by
    rcases ej with e|⟨g',e,h⟩
    ·rw[e] at hg
     cases hg
    ·rw[hg] at e
     cases e;have:=g6.keeps.size;omega
   have hs:=g4.keeps.size
   have D7:Dk E B I ρ d S6:=⟨D6.rep.keep k7 (fun i h _=>by
    rcases h with h|h
    ·rw[h];exact J
    ·cases h),D6.z8.keep k7 (fun i h=>by
    rcases h with h|h
    ·rw[h];exact Y
    ·cases h),D6.yx,ZR D6.size k7.size⟩
   have bb:ja w I (fun i=>ρ i≠ .none\/i=b):=((a2.mono (fun i _ h=>(Or.inr h:ρ i≠ .none\/i=b))).trans G.keeps (fun i _ h=> .inl h)).trans k7 (fun i _ h=>by
    rcases h with h|h
    ·exact .inr h
    ·cases h)
   have E7:Env E B I:=H.keep (bb.mono (fun i hi h=>(show B<=i from h.elim (fun h=>D.yx i h) (fun h=>by rw[h];exact Y)))) (fun i h=>h)
   have d7:=k7.row (G.keeps.row ez.out (fun g hg t=>t (ca g hg))) (fun g hg t=>by
    rcases t with t|t
    ·have:=(a5 g hg).1
     omega
    ·cases t)
   have eq:Jw I (.slice S A T) m.runs:=Jz d7 d1.out.symm;have nv:∀ g,v7.ownBlock=some g->ρ g = .none:=fun g hg=>yD (fun u=>by have:=D.rep.lt g u;have:=q g hg;omega)
   have T7:StM E B I ρ d b S6 k m (m.last+bs.length) (Rf.memory bs) false (.slice S A T) v7:=by
    refine⟨E7,D7,F6,bj,eq,q7 ak D.size,⟨J,Y⟩,fun p n c e=>?_,fun g hg=>⟨nv g hg,?_⟩,ok.yy,Rf.za _,HF.out,ew.out⟩
    ·have ap:(Value.slice S A T).ownBlock=some p.block:=by rw[e];rfl
     have h1:=a5 _ ap;have h2:=zC cz.out;have h4:=D.size;refine⟨ca _ ap,by omega,by omega,fun h=>?_,by omega⟩;have:=q _ h;omega
    ·have:=q g hg
     omega
   obtain⟨n8,an⟩:∃ n8,n8=(jt m).length+1:=⟨_,rfl⟩;have j:(ju m).length=n8:=by rw[an];simp[ju]
   have be:=xw m;have aa:(jt m).length=m.settled.length+1:=by unfold jt;simp
   have a7:∀(W:World),ja I W (fun _=>False)->Calls prog 182 #[.pointer (some ⟨b,0,none⟩)] W fun e w'=>∃ p c,e = .returned (.slice p n8 c)/\w'.ownsRow W.heap.size 9 1 (.slice p n8 c) n8 ((ju m).map jf)/\ja W w' (fun _=>False):=fun W s=>by
    rw[an];exact dt m _ (.slice S A T) _ _ _ _ (T7.env.same s) (s.same T7.row id) (T7.runs.same s) (by have:=bp.out;omega) dd.out d2.out
   have ck:∀(W:World) (v:Value),ja I W (fun _=>False)->W.ownsRow I.heap.size 9 1 v n8 ((ju m).map jf)->Calls prog 164 #[.pointer (some ⟨d,0,none⟩),v] W fun e w'=>∃ v9,e = .returned v9/\Xm E B I ρ d (jc.xu (ju m) S6) (.returned v9) w':=fun W v s hr=>by
    refine(Ap (D7.same s) v (ju m) I.heap.size (by rw[j];exact hr) (fun g hg=>yD (fun u=>by have:=(hr.lt g hg).1;have:=D7.rep.lt g u;omega)) (fun n u=>?_) (by rw[j,an,aa];have:=bp.out;omega) (by have:=F6.safe;have:=HK.out;omega)).mono ?_
    ·rcases ZV.1 u with u|u
     ·exact Y6 ok.yy n u
     ·rw[ZW.1 u];decide
    ·intro e w' h
     exact(h.before (xy.of s (fun _ _ h=>h.elim))).ret
   have z:=zA (o:=0) bj;simp at z;have z:I.drew.cell? ⟨b,0,none⟩=some (.pointer (some ⟨d,0,none⟩)):=z;have df:=jb a7;have f8:=jb ck;have i1:=jb ak;have C:ja I I.drew (fun _=>False):=ja.drew _ _;clear a7 ck bj ak hT hO bn j be aa an cl;go_wp2_with fail
   go_cut [6] from 10 (fun s6 wd=>Xm E B I ρ d (jc.xu (ju m) S6) (.returned s6) wd)
   case first =>
    go_region_law (first
     | (refine jz rfl 182 [.tmp 62] _ rfl Z5 [.pointer (some ⟨b,0,none⟩)] (by simp[Act.eval,Act.put]) (df.out _ C) ?_
        rintro e w8 ⟨p8,c8,rfl,bf,k8⟩
        have bf:=q7 bf C.size
        have z:=k8.cell z id
        have C:=C.tt k8
        refine⟨_,rfl,?_⟩)
     | (refine jz rfl 164 [.tmp 61,.tmp 63] _ rfl rq [.pointer (some ⟨d,0,none⟩),.slice p8 n8 c8] (by simp[Act.eval,Act.put]) (f8.out _ _ C bf) ?_
        rintro e R ⟨v9,rfl,h9⟩
        refine⟨_,rfl,?_⟩))
    all_goals
     go_wp2;go_meet
    all_goals exact h9
   case rest =>
   obtain⟨R,eh⟩:∃ R,R=wc:=⟨_,rfl⟩;subst eh;obtain⟨hl,g9,D9,bt⟩:=hcut;have F9:=F6.xu (ju m);have h9:yz E B I ρ d b (.slice S A T) v7 (jc.xu (ju m) S6).1 (k+70000) m (m.last+bs.length) (Rf.memory bs) false R:=T7.gone (ja.refl _ _) g9 D9 (F9.mono (by omega));rcases bt with⟨aj,e9⟩|⟨aj,v9,e9,cq⟩
   rotate_left
   ·cases e9
    obtain⟨t9,a9,rfl⟩:=cq.shape;obtain⟨ρ9,c9,ea,r,k9,bc,cn,b1⟩:=h9
    have a1:ja w R (fun i=>ρ i≠ .none\/i=b):=bb.trans k9 (fun i hi t=>by
     rcases t with t|t|t
     ·exact .inl t
     ·exact .inr t
     ·have:=q i t
      omega)
    go_wp2;go_ret;exact⟨S6,aq.out.trans br.out,.inr ⟨_,false,Prod.ext rfl aj,.inl ⟨rfl,⟨_,rfl,cq⟩,ρ9,r.xl,r.fit.mono (by omega),a1,fun i hi=>bc i (by omega),_,_,_,_,_,_,_,_,_,_,r.row⟩⟩⟩
   cases e9;have R9:Fn (jc.xu (ju m)) S6 (jc.xu (ju m) S6).1 true:=Prod.ext rfl aj;have F9:=F9;clear g9 D9 aj;generalize (jc.xu (ju m) S6).1=S9 at h9 R9 F9;have ey:=jb R9;clear R9;obtain⟨ρ9,c9,ea,r,k9,bc,cn,b1⟩:=h9
   have a1:ja w R (fun i=>ρ i≠ .none\/i=b):=bb.trans k9 (fun i hi t=>by
    rcases t with t|t|t
    ·exact .inl t
    ·exact .inr t
    ·have:=q i t
     omega)
   have ac:∀ i,i<w.heap.size->ρ9 i=ρ i:=fun i hi=>bc i (by omega);obtain⟨nn,am⟩:∃ nn,nn=(jt m).length+1:=⟨_,rfl⟩;have j:(ju m).length=nn:=by rw[am];simp[ju]
   have be:=xw m;have aa:(jt m).length=(m).settled.length+1:=by unfold jt;simp
   have d6:=r.au;have bu:=r.yy.log;have d8:=r.yy.1;have af:∀ n∈(m).settled,n<=9223372036854775807:=fun n u=>by have:=r.yy.2.2.1 n (xX _ u);omega
   have a7:∀(W:World),ja R W (fun _=>False)->Calls prog 182 #[.pointer (some ⟨b,0,none⟩)] W fun e w'=>∃ p c,e = .returned (.slice p nn c)/\w'.ownsRow W.heap.size 9 1 (.slice p nn c) nn ((ju m).map jf)/\ja W w' (fun _=>False):=fun W s=>by
    rw[am];exact dt m _ c9 _ _ _ _ (r.env.same s) (s.same r.row id) (r.runs.same s) (by omega) af (by omega)
   have hy:=r.fit.Co
   have cg:∀(W:World) (v:Value),ja R W (fun _=>False)->W.ownsRow R.heap.size 9 1 v nn ((ju m).map jf)->Calls prog 177 #[.pointer (some ⟨d,0,none⟩),v] W fun e w'=>∃ ba,e = .returned ba/\Xm E B R ρ9 d (jc.zj (ju m) S9) (.returned ba) w':=fun W v s hr=>by
    refine(Zu (r.xl.same s) (r.fit.small (by have:=HK.out;omega)) v (ju m) R.heap.size (by rw[j];exact hr) (fun g hg=>yD (fun u=>by have:=(hr.lt g hg).1;have:=r.xl.rep.lt g u;omega)) (by rw[j,am,aa];omega) (fun n u=>by have:=r.fit.keys n u;have:=HK.out;omega) (by have:=r.fit.safe;have:=HK.out;omega)).mono ?_;intro e w' h;exact(h.before (xy.of s (fun _ _ h=>h.elim))).ret
   have z:=zA (o:=0) r.row;simp at z;have z:R.drew.cell? ⟨b,0,none⟩=some (.pointer (some ⟨d,0,none⟩)):=z;have f7:=jb a7;have ex:=jb cg;have C:ja R R.drew (fun _=>False):=ja.drew _ _;clear a7 cg j be aa am d6 bu d8 af;go_wp2_with fail
   go_region_law (first
    | (refine jz rfl 182 [.tmp 72] _ rfl Z5 [.pointer (some ⟨b,0,none⟩)] (by simp[Act.eval,Act.put]) (f7.out _ C) ?_
       rintro e hm ⟨e6,et,rfl,ad,cc⟩
       have ad:=q7 ad C.size
       have z:=cc.cell z id
       have C:=C.tt cc
       refine⟨_,rfl,?_⟩)
    | (refine jz rfl 177 [.tmp 71,.tmp 73] _ rfl ff [.pointer (some ⟨d,0,none⟩),.slice e6 nn et] (by simp[Act.eval,Act.put]) (ex.out _ _ C ad) ?_
       rintro e e4 ⟨ba,rfl,es⟩
       refine⟨_,rfl,?_⟩))
   all_goals
    obtain⟨c7,Z,d5,av⟩:=es;have d4:=r.fit.zj (ju m);have s:ja w e4 (fun i=>ρ i≠ .none\/i=b):=a1.trans Z.keeps (fun i hi h=> .inl (by rw[<-ac i hi];exact h));have ei:∀ i,i<w.heap.size->c7 i=ρ i:=fun i hi=>(Z.role i (by have:=a1.size;omega)).trans (ac i hi);have ho:=a1.size;have gf:=k9.size;go_wp2;go_ret;refine⟨S6,aq.out.trans br.out,.inr ⟨S9,true,ey.out,.inr ⟨rfl,?_⟩⟩⟩;rcases av with⟨ab,bo⟩|⟨ab,ge,bo,dc⟩
    ·cases bo
     have h9:=r.next (Z.keeps.mono (fun i _ t=> .inl t)) Z.role d5 (d4.mono (k:=k+70000+S9.keys.length) (m:=2*k+300000) (by omega)) (Z.keeps.same r.row (fun t=>t r.nb.1));obtain⟨ρx,e5,e8,eg,hv,ef,ee,ed⟩:=h9;refine .inl ⟨ab,rfl,ρx,e5,e8,eg,?_,fun i hi=>(ef i (by omega)).trans (ac i hi),fun g hg=>?_,fun p n c e=>?_⟩
     ·exact s
     ·rcases ee g hg with t|t
      ·rcases cn g t with t|t
       ·have:=q g t
        omega
       ·omega
      ·omega
     ·rcases ed p n c e with⟨n',c',t⟩|t
      ·rcases b1 p n' c' t with⟨n2,c2,t2⟩|t
       ·exact(a5 p.block (by rw[t2];rfl)).1
       ·omega
      ·omega
    ·cases bo
     exact .inr ⟨ab,⟨_,rfl,dc⟩,c7,d5,d4.mono (by omega),s,ei,_,_,_,_,_,_,_,_,_,_,Z.keeps.same r.row (fun t=>t r.nb.1)⟩
theorem Rg{ρ:Nat->j3}{SD:jc}{g:List UInt8}(D:Dk E B w ρ d SD)(F:Fit k SD)(H:Env E B w)(hk:k<400000000000)(ok:(⟨m,bs,bls⟩:Rf.St).Ok)(d4:∀ p∈qn m.settled bls,At SD p.1 (fun a=>a.bytes=p.2))(cw:At SD (jh m.log) (fun a=>a.bytes=Rf.jk m.last bs++g))(j:g≠[])(cq:Rf.Over m.last bs g)(b4:m.next+1<=2000000000)(bk:m.bytes.length<=20000/\(Rf.jk m.last bs++g).length<=20000)(b8:(Rf.memory bs).length<60000)(ae:m.runs.length<60000)(hb:w.heap[b]?=some (.cells (newRow d) 121 (0,0)))(C:ρ b = .none)(S:B<=b)(vm:Value)(ck:Bytes w vm m.bytes) :
 Calls prog 131 #[.pointer (some ⟨b,0,none⟩),vm] w fun e w'=>Qu E B w ρ d b SD (2*k+300000) (Bm m (Rf.jk m.last bs)) m.xr (m.last+bs.length) (Rf.memory bs) e w':=by
 have cl:m.runs.length<65535:=ok.runs;have s:m.Good:=ok.yy;have dp:=s.log;have et:=s.1;have ev:=ql m;have dm:=bk.1;have J:=kh D.z8 D.size ck (by omega);rw[Rf.uj s (by omega)] at J;obtain⟨pm,cm,rfl,_⟩:=id ck;have c4:=jb J;have HB:=jb hb;have HK:=jb hk;have dc:=jb bk;have HF:=jb b8;have fo:=jb d4;have fl:=jb cw;have fb:=jb ae;have HG:=jb j;have fi:=jb cq;have du:=jb b4;have fk:Hid (m.log<=9223372036854775807):=jb (by omega);have fc:=jb cl;have az:∀ n∈m.settled,n<=9223372036854775807:=fun n hn=>by have h0:n<m.next:=(ok.Bh hn).2;omega
 have gm:=jb az;clear J hb hk bk cl s dp et ev dm az b8 d4 cw ae j cq b4;go_enter func131,ntmps131;go_wp2_with fail;refine c4.out.mono ?_;rintro e w1 ⟨k1,⟨m1,U,X,bq,rfl,ak⟩|⟨v1,bq,_⟩⟩
 rotate_left
 ·cases bq
 cases bq;obtain⟨A,bo⟩:∃ A,A=m.runs.length:=⟨_,rfl⟩;rw[<-bo] at ak ⊢;obtain⟨x,hx⟩:∃ x,x=w1.heap.size:=⟨_,rfl⟩;obtain⟨w2,a2⟩:∃ w2,w2=w1.alloc (.cells #[jg m.next,jg m.last,jg m.log,jg m.base,.slice U A X] 117):=⟨_,rfl⟩;have k2:ja w w2 (fun _=>False):=by rw[a2];exact k1.more _
 have G:w2.heap[x]?=some (.cells #[jg m.next,jg m.last,jg m.log,jg m.base,.slice U A X] 117 (0,0)):=by rw[a2,hx];exact je _ _
 have cp:w2.ownsRow w.heap.size 3 1 (.slice U A X) A (m.runs.map jg):=by rw[a2];exact ak.alloc _
 have l:=k2.same HB.out id;have gk:=zC HB.out;have hz:w.heap.size<=x:=by rw[hx];exact k1.size
 have a3:∀ g,(Value.slice U A X).ownBlock=some g->w.heap.size<=g/\g<x:=fun g j=>by rw[hx];exact ak.lt g j
 have x0:=zA (o:=0) G;have x1:=zA (o:=1) G;have x2:=zA (o:=2) G;have x3:=zA (o:=3) G;have x4:=zA (o:=4) G;have y1:=zA (o:=1) l;have y2:=zA (o:=2) l;have y3:=zA (o:=3) l;have y4:=zA (o:=4) l;have y5:=zA (o:=5) l;have y6:=zA (o:=6) l;have f1:=zB (o:=1) l;have f2:=zB (o:=2) l;have f3:=zB (o:=3) l;have f4:=zB (o:=4) l;have f5:=zB (o:=5) l;have f6:=zB (o:=6) l;simp at x0 x1 x2 x3 x4 y1 y2 y3 y4 y5 y6;have HX:=jb hx;have dd:=jb bo;have fa:=jb G;have fn:=jb l;have fh:=jb cp;have D2:=D.same k2;have E2:=H.same k2;clear hx bo G l ak cp;go_wp2_with fail;rw[<-a2,<-HX.out];clear a2
 go_cut [] from 10 (fun wd=>wd.heap[b]?=some (.cells (qu (.pointer (some ⟨d,0,none⟩)) (jg m.next) (jg m.last) (jg m.log) (jg m.base) (.slice U A X) (jg m.last) (.slice none 0 0) false false) 121 (0,0))/\ja w2 wd (fun i=>i=b))
 case first =>
  go_region
  all_goals
   go_wp2;go_meet
  all_goals
   have hh:∀ W:World,W.drew.heap=W.heap:=fun _=>rfl;refine⟨?_,ja.draw ?_⟩
   ·rw[hh]
    exact(jd (jd (jd (jd (jd (jd fn.out _) _) _) _) _) _).trans rfl
   ·exact(((((ja.setCell w2 ⟨b,1,none⟩ _).set (p:=⟨b,2,none⟩) rfl _).set (p:=⟨b,3,none⟩) rfl _).set (p:=⟨b,4,none⟩) rfl _).set (p:=⟨b,5,none⟩) rfl _).set (p:=⟨b,6,none⟩) rfl _
 case rest =>
  obtain⟨bt,k3⟩:=hcut;clear x0 x1 x2 x3 x4 y1 y2 y3 y4 y5 y6 f1 f2 f3 f4 f5 f6;have D3:Dk E B wc ρ d SD:=⟨D2.rep.keep k3 (fun i e _=>by rw[e];exact C),D2.z8.keep k3 (fun i e=>by rw[e];exact S),D2.yx,ZR D2.size k3.size⟩;have E3:Env E B wc:=E2.keep k3 (fun i e=>by rw[e];exact S);have ek:x≠b:=by omega
  have d7:=k3.same fa.out ek;have bn:=k3.row fh.out (fun g j e=>by have:=(a3 g j).1;have e':g=b:=e;omega);have eg:ρ x = .none:=yD (fun hn=>by have:=D.rep.lt x hn;omega);have ch:∀ g,(Value.slice U A X).ownBlock=some g->ρ g = .none:=fun g j=>yD (fun hn=>by have:=D.rep.lt g hn;have:=(a3 g j).1;omega);have cs:Jw wc (.slice U A X) m.runs:=Jz bn dd.out.symm;have a1:ja w wc (fun i=>i=b):=(k2.up).trans k3 (fun i _ e=>e);have hP:Ba m bls k SD:=⟨F,fo.out⟩;have d1:=u1 m (.slice U A X) (jg m.last) (.slice none 0 0) false false (bls.map Rf.chunks) E3 D3 hP (o7 ok.yy ok.len ok.bl (by have:=HK.out;omega)) bt cs (by have:=fc.out;omega);have fm:=jb d1;have aq:=jb bt;have db:=jb d7;have fg:=jb bn;clear d1 bt d7 bn cs hP;go_wp2_with fail;refine fm.out.mono ?_;rintro e N ⟨k4,D4,_,ey⟩;have g4:xy wc ρ N ρ:=⟨k4,fun _ _=>rfl⟩;obtain⟨I,O⟩:=Ma [] (bls.map Rf.chunks) SD;have ci:ja w N (fun i=>ρ i≠ .none\/i=b):=(a1.mono (fun i _ h=>(Or.inr h:ρ i≠ .none\/i=b))).trans g4.keeps (fun i _ h=> .inl h);rcases ey with⟨R,rfl⟩|⟨gl,i4,R,rfl,am⟩
  rotate_left
  ·rcases O with O|⟨O,eu⟩
   ·rw[O] at R;cases R
   ·rw[O] at R
    cases R;have am:=am.xl;obtain⟨t4,a4,rfl⟩:=am.shape;have ew:=I.fit F;go_wp2;go_ret;exact⟨_,I,.inl ⟨eu,⟨_,rfl,am⟩,ρ,D4,ew.mono (by omega),ci,fun _ _=>rfl,_,_,_,_,_,_,_,_,_,_,(g4.row aq.out C).1⟩⟩
  clear O R ci;generalize (Qs (xx (bls.map Rf.chunks) []) SD).1=S4 at D4 I;have F4:=I.fit F;have ap:=jb I;have dv:=jb (I.at fl.out);clear I;obtain⟨br,_⟩:=g4.row aq.out C;obtain⟨d6,_⟩:=g4.row db.out eg;have E4:=E3.keep g4.keeps (fun i t=>D3.yx i t);have V:=zA (o:=0) br;have z2:=zA (o:=2) d6;simp at V z2;obtain⟨lo,a5⟩:∃ lo,lo=m.log:=⟨_,rfl⟩;rw[<-a5] at z2;have V:N.drew.cell? ⟨b,0,none⟩=some (.pointer (some ⟨d,0,none⟩)):=V;have z2:N.drew.cell? ⟨x,2,none⟩=some (jg lo):=z2;obtain⟨L,hL⟩:∃ L,L=Rf.jk m.last bs++g:=⟨_,rfl⟩;have b5:At S4 (jh lo) (fun a=>a.bytes=L):=by rw[a5,hL];exact dv.out
  have b7:L.length<=20000:=by rw[hL];exact dc.out.2
  have ac:lo<=9223372036854775807:=by rw[a5];exact fk.out
  have cv:∀ W,ja N W (fun _=>False)->Calls prog 63 #[j7 lo] W fun e w'=>e = .returned (jf (jh lo))/\ja W w' (fun _=>False):=fun W z=>Qr lo ac (E4.same z)
  have cn:∀ W,ja N W (fun _=>False)->Calls prog 129 #[.pointer (some ⟨d,0,none⟩),jf (jh lo)] W fun e w'=>∃ x6 v6,e = .returned (.tuple #[x6,v6])/\xy N ρ w' ρ/\Dk E B w' ρ d (S4.called false)/\((∃ p c,x6 = .slice p L.length c/\v6 = .nilIface/\w'.ownsRow N.heap.size 5 1 (.slice p L.length c) L.length (L.map j5))\/(x6 = .slice none 0 0/\Err E w' v6 1/\¬qh S4)):=fun W z=>by
   obtain⟨f,a,hA,ha,f0⟩:=b5;refine(X9 (D4.same z) (F4.small (by have:=HK.out;omega)) (jh lo) (Xg ac)).mono ?_;rintro e w' ⟨g,D',⟨b9,v,rfl,he⟩|⟨_,hb,_⟩|⟨_,f',a',v,da,d5,rfl,hr⟩⟩
   ·exact⟨_,_,rfl,(xy.of z (fun _ _ h=>h.elim)).trans g,D',.inr ⟨rfl,he,fun w=>by rw[w.bad] at b9;cases b9⟩⟩
   ·rw[hA] at hb;cases hb
   ·rw[hA] at da;cases da
    rw[ha] at d5;cases d5;rw[f0] at hr;obtain⟨p,c,rfl⟩:=jm hr;exact⟨_,_,rfl,(xy.of z (fun _ _ h=>h.elim)).trans g,D',.inl ⟨p,c,rfl,rfl,q7 hr z.size⟩⟩
  have de:=jb cv;have bw:=jb cn;have gn:=jb a5;have ao:=jb hL;have df:=jb br;have ba:=jb b7;have Z:ja N N.drew (fun _=>False):=ja.drew _ _;clear cv cn a5 hL b5 b7 ac br d6;have F6:=F4.called false;generalize hS6:S4.called false=S6 at bw F6;have bx:Hid (xi S4 S6):=jb (hS6▸xi.called S4);clear hS6;go_wp2_with fail
  go_cut [8,6] from 10 (fun s8 s6 wd=>xy N ρ wd ρ/\Dk E B wd ρ d S6/\((∃ p c,s8 = .slice p L.length c/\s6 = .nilIface/\wd.ownsRow N.heap.size 5 1 (.slice p L.length c) L.length (L.map j5))\/(s8 = .slice none 0 0/\Err E wd s6 1/\¬qh S4)))
  case first =>
   go_region_law (first
    | (refine jz rfl 63 [.tmp 38] _ rfl Jv [j7 lo] (by simp[Act.eval,Act.put]) (de.out _ Z) ?_
       rintro e w5 ⟨rfl,k5⟩
       have V:=k5.cell V id
       have Z:=Z.tt k5
       refine⟨_,rfl,?_⟩)
    | (refine jz rfl 129 [.tmp 36,.tmp 39] _ rfl oc [.pointer (some ⟨d,0,none⟩),jf (jh lo)] (by simp[Act.eval,Act.put]) (bw.out _ Z) ?_
       rintro e w6 ⟨x6,v6,rfl,h6⟩
       refine⟨_,rfl,?_⟩))
   all_goals
    go_wp2;go_meet
   all_goals exact h6
  case rest =>
   obtain⟨g6,D6,⟨p6,c6,rfl,rfl,u⟩|⟨rfl,cz,dl⟩⟩:=hcut
   rotate_left
   ·obtain⟨t6,a6,rfl⟩:=cz.shape
    have y:=g4.trans g6;have ej:ja w wc (fun i=>ρ i≠ .none\/i=b):=(a1.mono (fun i _ h=>(Or.inr h:ρ i≠ .none\/i=b))).trans y.keeps (fun i _ h=> .inl h);have f7:=ap.out.trans bx.out;go_wp2;go_ret;exact⟨_,f7,.inl ⟨fun w=>dl (ap.out.u9 w),⟨_,rfl,cz⟩,ρ,D6,F6.mono (by omega),ej,fun _ _=>rfl,_,_,_,_,_,_,_,_,_,_,(y.row aq.out C).1⟩⟩
   have y:=g4.trans g6;obtain⟨d3,_⟩:=y.row aq.out C
   have b1:=Gn b (.pointer (some ⟨d,0,none⟩)) (jg m.next) (jg m.last) (jg m.log) (jg m.base) (.slice U A X) (.bool false) (.bool false) m.last 121 (.slice none 0 0) (.slice p6 L.length c6) [] L w.heap.size wc D6.z8 S (fun g j=>by cases j) d3 (zY _ _ _ _) (fun h=>by cases h) List.Pairwise.nil
    (by have h1:L.length<=20000:=ba.out;simp only[zQ];omega) ok.yy.2.1 (x7 u) (by have:=a1.size;have:=y.keeps.size;omega) (fun _ p n c e=>by
     have an:(Value.slice p6 L.length c6).ownBlock=some p.block:=by rw[e];rfl
     have h1:=(u.lt _ an).1
     have h2:=zC df.out
     exact⟨by omega,fun h=>by cases h⟩)
   have dr:=jb b1;clear b1 d3 V z2 Z de bw;go_wp2_with fail;refine dr.out.mono ?_;rintro e w7 ⟨i6,g',v7,hT,hO,rfl,d2,aj,i2,es,k7⟩;have bu:=Rf.Lj (last:=m.last) ok.log (by have:=ok.cap;unfold Rf.St.last at this;exact this) g;rw[<-ao.out] at bu;obtain⟨e1,e2⟩:=Rf.Jl.unique hT hO bu fi.out;have e1:=e1.symm;have e2:=e2.symm;subst e1;subst e2;have c3:0<g.length:=ZY.2 HG.out;obtain⟨Y,bm⟩:∃ Y,Y=L.length-g.length:=⟨_,rfl⟩;rw[<-bm];have di:Y<L.length:=by have:=ao.out;have h2:=congrArg List.length this;rw[ZC] at h2;omega
   have a8:L.take Y=Rf.jk m.last bs:=by
    have h2:=congrArg List.length ao.out;rw[ZC] at h2;rw[ao.out,XE (by omega),ZF (by omega)]
   have ct:Rf.ax [] bs=Rf.memory bs:=rfl;rw[ct] at aj;have hw:=a1.size;have hu:=y.keeps.size;have ht:=k7.size
   have q:∀ g,v7.ownBlock=some g->N.heap.size<=g:=fun g j=>by
    rcases es with e|⟨g',e,h⟩
    ·rw[e] at j
     cases j
    ·rw[j] at e
     cases e;have:=g6.keeps.size;omega
   have hv:=g4.keeps.size
   have D7:Dk E B w7 ρ d S6:=⟨D6.rep.keep k7 (fun i h _=>by
    rcases h with h|h
    ·rw[h];exact C
    ·cases h),D6.z8.keep k7 (fun i h=>by
    rcases h with h|h
    ·rw[h];exact S
    ·cases h),D6.yx,ZR D6.size k7.size⟩
   have bi:ja w w7 (fun i=>ρ i≠ .none\/i=b):=((a1.mono (fun i _ h=>(Or.inr h:ρ i≠ .none\/i=b))).trans y.keeps (fun i _ h=> .inl h)).trans k7 (fun i _ h=>by
    rcases h with h|h
    ·exact .inr h
    ·cases h)
   have E7:Env E B w7:=H.keep (bi.mono (fun i hi h=>(show B<=i from h.elim (fun h=>D.yx i h) (fun h=>by rw[h];exact S)))) (fun i h=>h)
   have b3:=k7.row (y.keeps.row fg.out (fun g j t=>t (ch g j))) (fun g j t=>by
    rcases t with t|t
    ·have:=(a3 g j).1
     omega
    ·cases t)
   have d8:Jw w7 (.slice U A X) m.runs:=Jz b3 dd.out.symm;have nv:∀ g,v7.ownBlock=some g->ρ g = .none:=fun g j=>yD (fun hn=>by have:=D.rep.lt g hn;have:=q g j;omega)
   have T7:StM E B w7 ρ d b S6 k m (m.last+bs.length) (Rf.memory bs) false (.slice U A X) v7:=by
    refine⟨E7,D7,F6,d2,d8,q7 aj D.size,⟨C,S⟩,fun p n c e=>?_,fun g j=>⟨nv g j,?_⟩,ok.yy,Rf.za _,HF.out,fb.out⟩
    ·have an:(Value.slice U A X).ownBlock=some p.block:=by rw[e];rfl
     have h1:=a3 _ an;have h2:=zC db.out;have h4:=D.size;refine⟨ch _ an,by omega,by omega,fun h=>?_,by omega⟩;have:=q _ h;omega
    ·have:=q g j
     omega
   have cx:Bytes w7 (.slice p6 Y c6) (Rf.jk m.last bs):=by
    have ez:Bytes w7 (.slice p6 L.length c6) L:=x7 (k7.row u (fun g j t=>by
     rcases t with t|t
     ·have h1:=(u.lt _ j).1
      have h2:=zC df.out
      omega
     ·cases t))
    have:=ez.take Y (by omega);rwa [a8] at this
   have af:Off ρ (.slice p6 Y c6):=fun p n c e=>yD (fun hn=>by
    cases e
    have h1:=(u.lt p.block rfl).1
    have h2:=D.rep.lt p.block hn
    omega)
   have ex:L.length<=c6:=by
    obtain⟨p',c',e,h1,_⟩:=x7 u;cases e;exact h1
   have b2:=Ty T7 (by have:=HK.out;omega) du.out (.slice p6 Y c6) (Rf.jk m.last bs) cx af (by rw[<-a8,ZN];have:=ba.out;omega) dc.out.1
   have er:∃ g6,p6=some ⟨g6,0,none⟩:=by
    rcases u.2 with⟨e,h0⟩|⟨g',cap,i5,e,_⟩
    ·omega
    ·cases e
     exact⟨g',rfl⟩
   obtain⟨g6,rfl⟩:=er;have ds:=jb b2;have i8:=jb aj;have b6:((Y:Int)<(L.length:Int)):=by omega
   have dn:decide ((Y:Int)<(L.length:Int))=true:=decide_eq_true b6;have i1:Y<=c6:=by omega
   have i7:=jb bm;obtain⟨nL,bp⟩:∃ nL,nL=L.length:=⟨_,rfl⟩;rw[<-bp] at b6 dn ⊢;have i9:=jb bp;clear b2 d2 aj hT hO bu ct cx af bm di a8 c3 ex bp u d8 b3;go_wp2_with fail;refine ds.out.mono ?_;rintro e w9 ⟨S9,hy,R9,bz,h9⟩;rcases bz with⟨rfl,rfl⟩|⟨rfl,v9,rfl,cy⟩
   rotate_left
   ·obtain⟨t9,a9,rfl⟩:=cy.shape
    obtain⟨ρ9,cg,ei,r,k9,bj,cu,b0⟩:=h9
    have a0:ja w w9 (fun i=>ρ i≠ .none\/i=b):=bi.trans k9 (fun i hi t=>by
     rcases t with t|t|t
     ·exact .inl t
     ·exact .inr t
     ·have:=q i t
      omega)
    go_wp2;go_ret;exact⟨S6,ap.out.trans bx.out,.inr ⟨S9,false,R9,.inl ⟨rfl,⟨_,rfl,cy⟩,ρ9,r.xl,r.fit.mono (by omega),a0,fun i hi=>bj i (by omega),_,_,_,_,_,_,_,_,_,_,r.row⟩⟩⟩
   rw[if_pos rfl] at h9;have fe:=jb R9;clear R9;obtain⟨ρ9,cg,ei,r,k9,bj,cu,b0⟩:=h9
   have a0:ja w w9 (fun i=>ρ i≠ .none\/i=b):=bi.trans k9 (fun i hi t=>by
    rcases t with t|t|t
    ·exact .inl t
    ·exact .inr t
    ·have:=q i t
     omega)
   have aa:∀ i,i<w.heap.size->ρ9 i=ρ i:=fun i hi=>bj i (by omega);obtain⟨nn,al⟩:∃ nn,nn=(jt m.xr).length+1:=⟨_,rfl⟩;have M:(ju m.xr).length=nn:=by rw[al];simp[ju]
   have ep:=xw m.xr;have d9:(jt m.xr).length=(m.xr).settled.length+1:=by unfold jt;simp
   have dj:=r.au;have c0:=r.yy.log;have dk:=r.yy.1;have ad:∀ n∈(m.xr).settled,n<=9223372036854775807:=fun n hn=>by have:=r.yy.2.2.1 n (xX _ hn);omega
   have cr:∀(W:World),ja w9 W (fun _=>False)->Calls prog 182 #[.pointer (some ⟨b,0,none⟩)] W fun e w'=>∃ p c,e = .returned (.slice p nn c)/\w'.ownsRow W.heap.size 9 1 (.slice p nn c) nn ((ju m.xr).map jf)/\ja W w' (fun _=>False):=fun W z=>by
    rw[al];exact dt m.xr _ cg _ _ _ _ (r.env.same z) (z.same r.row id) (r.runs.same z) (by omega) ad (by omega)
   have i3:=r.fit.Co
   have co:∀(W:World) (v:Value),ja w9 W (fun _=>False)->W.ownsRow w9.heap.size 9 1 v nn ((ju m.xr).map jf)->Calls prog 177 #[.pointer (some ⟨d,0,none⟩),v] W fun e w'=>∃ bh,e = .returned bh/\Xm E B w9 ρ9 d (jc.zj (ju m.xr) S9) (.returned bh) w':=fun W v z hr=>by
    refine(Zu (r.xl.same z) (r.fit.small (by have:=HK.out;omega)) v (ju m.xr) w9.heap.size (by rw[M];exact hr) (fun g j=>yD (fun hn=>by have:=(hr.lt g j).1;have:=r.xl.rep.lt g hn;omega)) (by rw[M,al,d9];omega) (fun n hn=>by have:=r.fit.keys n hn;have:=HK.out;omega) (by have:=r.fit.safe;have:=HK.out;omega)).mono ?_;intro e w' h;exact(h.before (xy.of z (fun _ _ h=>h.elim))).ret
   have V:=zA (o:=0) r.row;simp at V;have V:w9.drew.cell? ⟨b,0,none⟩=some (.pointer (some ⟨d,0,none⟩)):=V;have fj:=jb cr;have fd:=jb co;have Z:ja w9 w9.drew (fun _=>False):=ja.drew _ _;clear cr co M ep d9 al dj c0 dk ad;go_wp2_with fail
   go_region_law (first
    | (refine jz rfl 182 [.tmp 72] _ rfl Z5 [.pointer (some ⟨b,0,none⟩)] (by simp[Act.eval,Act.put]) (fj.out _ Z) ?_
       rintro e hq ⟨ef,f9,rfl,ab,cj⟩
       have ab:=q7 ab Z.size
       have V:=cj.cell V id
       have Z:=Z.tt cj
       refine⟨_,rfl,?_⟩)
    | (refine jz rfl 177 [.tmp 71,.tmp 73] _ rfl ff [.pointer (some ⟨d,0,none⟩),.slice ef nn f9] (by simp[Act.eval,Act.put]) (fd.out _ _ Z ab) ?_
       rintro e ed ⟨bh,rfl,f8⟩
       refine⟨_,rfl,?_⟩))
   all_goals
    obtain⟨cf,T,dh,ar⟩:=f8;have dg:=r.fit.zj (ju m.xr);have z:ja w ed (fun i=>ρ i≠ .none\/i=b):=a0.trans T.keeps (fun i hi h=> .inl (by rw[<-aa i hi];exact h));have eq:∀ i,i<w.heap.size->cf i=ρ i:=fun i hi=>(T.role i (by have:=a0.size;omega)).trans (aa i hi);have hs:=a0.size;have gj:=k9.size;go_wp2;go_ret;refine⟨S6,ap.out.trans bx.out,.inr ⟨S9,true,fe.out,.inr ⟨rfl,?_⟩⟩⟩;rcases ar with⟨a7,bv⟩|⟨a7,gi,bv,dq⟩
    ·cases bv
     have h9:=r.next (T.keeps.mono (fun i _ t=> .inl t)) T.role dh (dg.mono (k:=k+70000+S9.keys.length) (m:=2*k+300000) (by omega)) (T.keeps.same r.row (fun t=>t r.nb.1));obtain⟨ρx,ee,eh,eo,i0,en,em,el⟩:=h9;refine .inl ⟨a7,rfl,ρx,ee,eh,eo,?_,fun i hi=>(en i (by omega)).trans (aa i hi),fun g j=>?_,fun p n c e=>?_⟩
     ·exact z
     ·rcases em g j with t|t
      ·rcases cu g t with t|t
       ·have:=q g t
        omega
       ·omega
      ·omega
     ·rcases el p n c e with⟨n',c',t⟩|t
      ·rcases b0 p n' c' t with⟨n2,c2,t2⟩|t
       ·exact(a3 p.block (by rw[t2];rfl)).1
       ·omega
      ·omega
    ·cases bv
     exact .inr ⟨a7,⟨_,rfl,dq⟩,cf,dh,dg.mono (by omega),z,eq,_,_,_,_,_,_,_,_,_,_,T.keeps.same r.row (fun t=>t r.nb.1)⟩
theorem uh{t:TypeId}{a:Addr}(b x:Nat)(u:FrameMode)(w:World)(h:w.cell? ⟨x,0,none⟩=some (.iface t (.pointer (some a))))(d:C5 w b) :
 CallsD prog 127 #[.pointer (some ⟨b,0,none⟩),.pointer (some ⟨x,0,none⟩)] u w fun e u' w'=>u'=u/\e = .returned (.tuple #[])/\C5 w' b/\ja w w' (fun i=>i=b):=by
 obtain⟨o,y,v,s,r,q,n,m,k,p,g⟩:=d;have HS:=jb (Pc g);clear g;go_enter_d func127,ntmps127;go_wp2_with fail;refine HS.out.mono ?_;rintro e l ⟨rfl,c,j⟩;have f:=jb c;clear c;go_wp2;go_end0;exact⟨rfl,⟨_,_,_,_,_,_,_,_,_,_,f.out⟩,j⟩
theorem C5.keep{T:Nat->Prop}(h:C5 w b)(k:ja w w' T)(i:¬T b):C5 w' b:=by
 obtain⟨j,q,p,o,n,m,f,d,c,l,g⟩:=h;exact⟨j,q,p,o,n,m,f,d,c,l,k.same g i⟩
theorem sq.shut{n H l:World}{ρ:Nat->j3}{x:Nat}{S:jc}{v:Value}{o:Obj}(h:sq E B w ρ d b S k (.returned v) n)(O:w.heap[x]?=some o)(g:∃ c,n.heap[x]?=some (.cells c 128 (0,0)))(T:b<w.heap.size)(q:ρ x = .none)(r:ρ b = .none)(A:B<=x)(C:B<=b)(V:x≠b)(N:ja n H (fun i=>i=x))(M:ja H l (fun i=>i=b))(m:C5 l b){p:World}(I:ja p w (fun i=>ρ i≠ .none\/i=b))(U:p.heap.size<=x):sq E B p ρ d b S k (.returned v) l:=by
 obtain⟨⟨v',e,R⟩,G,D,F,L,j,u⟩:=h;cases e;obtain⟨c5,g⟩:=g;obtain⟨Z,a1,a2,a3,a4,a5,Y,X,W,cl,z⟩:=u;have s:=zC O;have f:ja n l (fun i=>i=x\/i=b):=(N.mono (fun i _ e=> .inl e)).trans M (fun i _ e=> .inr e)
 have J:∀ i,(i=x\/i=b)->G i = .none/\B<=i:=fun i t=>by
  rcases t with rfl|rfl
  ·exact⟨(j _ s).trans q,A⟩
  ·exact⟨(j _ T).trans r,C⟩
 have y:Err E l v 1:=R.keep f (fun i c t hc=>by
  rcases t with rfl|rfl
  ·rw[g] at hc
   injection hc with hc
   injection hc with h1 h2
   exact absurd h2 (by decide)
  ·rw[z] at hc
   injection hc with hc
   injection hc with h1 h2
   exact absurd h2 (by decide))
 refine⟨⟨v,rfl,y⟩,G,⟨D.rep.keep f (fun i t _=>(J i t).1),D.z8.keep f (fun i t=>(J i t).2),D.yx,ZR D.size f.size⟩,F,(I.trans L (fun i _ t=>t)).trans f (fun i hi t=>?_),fun i hi=>j i (ZA hi I.size),m⟩;rcases t with rfl|rfl
 ·omega
 ·exact .inr rfl
theorem Qu.looked{ρ:Nat->j3}{last:Nat}{S T:jc}(c:xi S T)(h:Qu E B w ρ d b T k R m2 last ml e w'):Qu E B w ρ d b S k R m2 last ml e w':=by
 obtain⟨i,g,⟨f,j⟩|f⟩:=h
 ·exact⟨i,c.trans g,.inl ⟨fun t=>f (c.u9 t),j⟩⟩
 ·exact⟨i,c.trans g,.inr f⟩
theorem Qu.cases{ρ:Nat->j3}{last:Nat}{S:jc}(h:Qu E B w ρ d b S k R m2 last ml e w') :
 (e = .returned .nilIface/\∃ T,gw E B w ρ d b T k m2 last ml w'/\∀ {j i:World},gw E B j ρ d b T k m2 last ml i->Qu E B j ρ d b S k R m2 last ml (.returned .nilIface) i) \/
 (∃ T v,e = .returned v/\sq E B w ρ d b T k (.returned v) w'/\∀ {j i:World},sq E B j ρ d b T k (.returned v) i->Qu E B j ρ d b S k R m2 last ml (.returned v) i):=by
 obtain⟨m,o,⟨g,c⟩|⟨p,f,r,⟨g,c⟩|⟨g,⟨c,rfl,n⟩|⟨c,n⟩⟩⟩⟩:=h
 ·obtain⟨v,l,_⟩:=c.1
  subst l;exact .inr ⟨m,v,rfl,c,fun q=>⟨m,o,.inl ⟨g,q⟩⟩⟩
 ·obtain⟨v,l,_⟩:=c.1
  subst l;exact .inr ⟨p,v,rfl,c,fun q=>⟨m,o,.inr ⟨p,f,r,.inl ⟨g,q⟩⟩⟩⟩
 ·exact .inl ⟨rfl,_,n,fun q=>⟨m,o,.inr ⟨p,f,r,.inr ⟨g,.inl ⟨c,rfl,q⟩⟩⟩⟩⟩
 ·obtain⟨v,l,_⟩:=n.1
  subst l;exact .inr ⟨_,v,rfl,n,fun q=>⟨m,o,.inr ⟨p,f,r,.inr ⟨g,.inr ⟨c,q⟩⟩⟩⟩⟩
theorem jc3{ρ:Nat->j3}{k' last:Nat}{S:jc}(D:Dk E B w ρ d S)(F:Fit k S)(H:Env E B w)(hk:k<530000000000)(b8:k<=k')(a8:At S ji (fun a=>a.bytes=m.bytes))(U:∀(W:World) (vm:Value),Dk E B W ρ d (S.called false)->Env E B W->W.heap[b]?=some (.cells (newRow d) 121 (0,0))->Bytes W vm m.bytes->Calls prog 131 #[.pointer (some ⟨b,0,none⟩),vm] W (Qu E B W ρ d b (S.called false) k' R m2 last ml))(hb:w.heap[b]?=some (.cells (newRow d) 121 (0,0)))(Z:ρ b = .none)(an:B<=b) :
 Calls prog 83 #[.pointer (some ⟨b,0,none⟩)] w (Qu E B w ρ d b S k' R m2 last ml):=by
 obtain⟨x,hx⟩:∃ x,x=w.heap.size:=⟨_,rfl⟩;obtain⟨w1,a0⟩:∃ w1,w1=w.alloc (.cells #[.nilIface] 128):=⟨_,rfl⟩;have k1:ja w w1 (fun _=>False):=by rw[a0];exact ja.alloc _ _ _
 have bc:w1.heap[x]?=some (.cells #[.nilIface] 128 (0,0)):=by rw[a0,hx];exact je _ _
 have al:=k1.same hb id;have cr:=zC hb;have u:ρ x = .none:=yD (fun hn=>by have:=D.rep.lt x hn;omega);have D1:=D.same k1;have b2:=X9 D1 (F.small (by omega)) ji (by decide);have c0:=zA (o:=0) al;simp at c0
 have c7:∀ o,(w.alloc o).cell? ⟨b,0,none⟩=some (.pointer (some ⟨d,0,none⟩)):=fun o=>by
  have:=zA (o:=0) ((ja.alloc w o (fun _=>False)).same hb id);simpa using this
 have cb:=jb b2;have HX:=jb hx;have a3:=jb bc;have a4:=jb al;have au:=jb U;have ab:=jb a8;have cd:=jb b8;clear b2 hx bc al hb hk U a8 b8;go_enter_defers func83,ntmps83;go_wp2_with fail;rw[<-a0,<-HX.out];clear a0 c7;refine cb.out.mono ?_;have j:x≠b:=by have:=HX.out;omega
 have O:B<=x:=by rw[HX.out];exact D.size
 rintro e V ⟨g2,I,⟨aa,v2,rfl,ak⟩|⟨_,b5,_⟩|⟨_,f,a,v2,hA,ha,rfl,M⟩⟩
 ·obtain⟨t2,a2,rfl⟩:=ak.shape;have l:=(g2.row a3.out u).1;have J:=(g2.row a4.out Z).1;obtain⟨y,v⟩:∃ y,y=V.setCell ⟨x,0,none⟩ (.iface t2 (.pointer (some a2))):=⟨_,rfl⟩;have G:ja V y (fun i=>i=x):=by rw[v];exact ja.setCell V ⟨x,0,none⟩ _
  have z:y.heap[x]?=some (.cells #[.iface t2 (.pointer (some a2))] 128 (0,0)):=by rw[v];exact(jd l _).trans rfl
  have N:=G.same J (Ne.symm j);have D3:Dk E B y ρ d (S.called false):=⟨I.rep.keep G (fun i e _=>by rw[e];exact u),I.z8.keep G (fun i e=>by rw[e];exact O),I.yx,ZR I.size G.size⟩
  have c3:Err E y (.iface t2 (.pointer (some a2))) 1:=ak.keep G (fun i c t hc=>by
   rw[t,l] at hc
   injection hc with hc
   injection hc with h1 h2
   exact absurd h2 (by decide))
  have ai:=ri D3.z8 c3 2 (by decide);rw[decide_eq_false (by decide)] at ai;have c6:=I.z8.cell 2 (by decide);have c5:=D3.z8.cell 2 (by decide);have bz:=I.z8.lt 2 (by decide);have bh:¬x=2:=by omega
  have bg:¬2=x:=by omega
  have x2:=zA (o:=0) l;have f2:=zB (o:=0) l;have x3:=zA (o:=0) z;have f3:=zB (o:=0) z;simp at x2 x3;obtain⟨X,ag⟩:∃ X,X=y.setCell ⟨x,0,none⟩ (.iface t2 (.pointer (some a2))):=⟨_,rfl⟩;have k4:ja y X (fun i=>i=x):=by rw[ag];exact ja.setCell y ⟨x,0,none⟩ _
  have am:X.heap[x]?=some (.cells #[.iface t2 (.pointer (some a2))] 128 (0,0)):=by rw[ag];exact(jd z _).trans rfl
  have x4:=zA (o:=0) am;simp at x4;have b9:=k4.same N (Ne.symm j);have hF:sq E B w1 ρ d b (S.called false) k' (.returned (.iface t2 (.pointer (some a2)))) V:=⟨⟨_,rfl,ak⟩,ρ,I,(F.called false).mono cd.out,g2.keeps.mono (fun i _ t=> .inl t),fun _ _=>rfl,_,_,_,_,_,_,_,_,_,_,J⟩;have HF:=jb hF;have ce:=jb ai;have ca:=jb l;have c9:=jb am;have bw:ja V X (fun i=>i=x):=G.trans k4 (fun i _ e=>e);have ci:Hid (C5 X b):=⟨_,_,_,_,_,_,_,_,_,_,b9⟩;clear hF ai l z am J N b9 c0;go_wp2_with fail;rw[<-v];refine ce.out.mono ?_;rintro e w5 ⟨rfl,h5⟩;subst h5;clear v;go_wp2;rw[<-ag];refine leaves_cons (f:=127) (args:=#[.pointer (some ⟨b,0,none⟩),.pointer (some ⟨x,0,none⟩)]) (by simp) (by simp[go_sem]) ?_;refine(uh b x .returning _ x4 ci.out).mono ?_;rintro e u' L ⟨rfl,rfl,aq,k6⟩;refine⟨_,Yu rfl rfl (k6.same c9.out (fun e=>j e)),S.called false,xi.called S,.inl ⟨fun w=>(by rw[w.bad] at aa;cases aa),?_⟩⟩;exact HF.out.shut a3.out ⟨_,ca.out⟩ (zC a4.out) u Z O an j bw k6 aq (k1.up) (by rw[HX.out];exact ZQ _)
 ·obtain⟨f,a,hA,_⟩:=ab.out
  rw[hA] at b5;cases b5
 ·obtain⟨f',a',bd,bb,ba⟩:=ab.out
  rw[hA] at bd;cases bd;rw[ha] at bb;cases bb;rw[ba] at M;obtain⟨p2,c2,rfl⟩:=jm M;have l:=(g2.row a3.out u).1;have J:=(g2.row a4.out Z).1;obtain⟨y,v⟩:∃ y,y=V.setCell ⟨x,0,none⟩ .nilIface:=⟨_,rfl⟩;have G:ja V y (fun i=>i=x):=by rw[v];exact ja.setCell V ⟨x,0,none⟩ _
  have z:y.heap[x]?=some (.cells #[.nilIface] 128 (0,0)):=by rw[v];exact(jd l _).trans rfl
  have N:=G.same J (Ne.symm j);have D3:Dk E B y ρ d (S.called false):=⟨I.rep.keep G (fun i e _=>by rw[e];exact u),I.z8.keep G (fun i e=>by rw[e];exact O),I.yx,ZR I.size G.size⟩;have c6:=I.z8.cell 2 (by decide);have c5:=D3.z8.cell 2 (by decide);have bz:=I.z8.lt 2 (by decide);have bh:¬x=2:=by omega
  have bg:¬2=x:=by omega
  have x2:=zA (o:=0) l;have f2:=zB (o:=0) l;have x3:=zA (o:=0) z;simp at x2 x3;have Y:ja w y (fun i=>ρ i≠ .none\/i=b):=((k1.up).trans g2.keeps (fun i _ h=> .inl h)).trans G (fun i hi e=>by have:=HX.out;omega);have E3:Env E B y:=H.keep (Y.mono (fun i hi h=>(show B<=i from h.elim (fun h=>D.yx i h) (fun h=>by rw[h];exact an)))) (fun i h=>h);have b4:=G.row M (fun g hg e=>by have h1:=(M.lt g hg).1;have h2:=zC a3.out;have e':g=x:=e;omega);have ah:=au.out y (.slice p2 m.bytes.length c2) D3 E3 N (x7 b4);obtain⟨nb,b6⟩:∃ nb,nb=m.bytes.length:=⟨_,rfl⟩;rw[<-b6] at ah ⊢;have cc:=jb ah;have a1:=jb z;clear ah l z J N M b4 c0 b6 ba;go_wp2_with fail;rw[<-v];refine(jgj _ _).mono ?_;rintro e X ⟨rfl,h4⟩;subst h4;clear v;go_wp2_with fail;refine cc.out.mono ?_;intro e w5 hL;rcases hL.cases with⟨rfl,T,bx,r⟩|⟨T,v5,rfl,aj,r⟩
  ·obtain⟨ρ5,b0,b1,S5,k5,af,b7,a7⟩:=bx
   have s:=k5.same a1.out (fun t=>t.elim (fun t=>t u) j);have x5:=zA (o:=0) s;have f5:=zB (o:=0) s;simp at x5;obtain⟨L,A⟩:∃ L,L=w5.setCell ⟨x,0,none⟩ .nilIface:=⟨_,rfl⟩;have k6:ja w5 L (fun i=>i=x):=by rw[A];exact ja.setCell w5 ⟨x,0,none⟩ _
   have C:L.heap[x]?=some (.cells #[.nilIface] 128 (0,0)):=by rw[A];exact(jd s _).trans rfl
   have x6:=zA (o:=0) C;simp at x6;have bf:x<X.heap.size:=zC a1.out
   have S6:StM E B L ρ5 d b T k' m2 last ml false b0 b1:=S5.keep k6 (fun i _ e=>by
    rw[e]
    refine⟨O,fun t=>?_,fun p n c e2 e3=>?_⟩
    ·rcases t with t|t|t
     ·rw[af x bf] at t;exact t u
     ·exact j t
     ·have:=b7 x t;omega
    ·have:=a7 p n c e2;omega)
   have a9:gw E B w ρ d b T k' m2 last ml L:=by
    have d9:=Y.size;exact⟨ρ5,b0,b1,S6,(Y.trans k5 (fun i hi h=>h)).trans k6 (fun i hi e=>by have:=HX.out;omega),fun i hi=>af i (by omega),fun g hg=>by have:=b7 g hg;omega,fun p n c e=>by have:=a7 p n c e;omega⟩
   have bi:=jb ((r a9).looked (xi.called S));have ao:=jb C;clear a9 s C hL r;go_wp2;rw[<-A];refine leaves_cons (f:=127) (args:=#[.pointer (some ⟨b,0,none⟩),.pointer (some ⟨x,0,none⟩)]) (by simp) (by simp[go_sem]) ?_;refine(ug b x .returning _ x6).mono ?_;rintro e u' w' ⟨rfl,rfl,rfl⟩;exact⟨.nilIface,Yu rfl rfl ao.out,bi.out⟩
  ·obtain⟨⟨d8,e5,c1⟩,c4⟩:=id aj
   cases e5;obtain⟨t5,a5,rfl⟩:=c1.shape;obtain⟨ρ5,D5,F5,k5,af,b3⟩:=c4;have s:=k5.same a1.out (fun t=>t.elim (fun t=>t u) j);have x5:=zA (o:=0) s;have f5:=zB (o:=0) s;simp at x5;obtain⟨L,A⟩:∃ L,L=w5.setCell ⟨x,0,none⟩ (.iface t5 (.pointer (some a5))):=⟨_,rfl⟩;have k6:ja w5 L (fun i=>i=x):=by rw[A];exact ja.setCell w5 ⟨x,0,none⟩ _
   have C:L.heap[x]?=some (.cells #[.iface t5 (.pointer (some a5))] 128 (0,0)):=by rw[A];exact(jd s _).trans rfl
   have x6:=zA (o:=0) C;simp at x6;have ch:=jb (b3.keep k6 (fun e=>j e.symm));have c8:=jb s;have ao:=jb C;have cf:=jb aj;have cg:=jb (fun(w0 V:World) (q:sq E B w0 ρ d b T k' (.returned (.iface t5 (.pointer (some a5)))) V)=>(r q).looked (xi.called S));have ar:b<X.heap.size:=ZA (zC a4.out) (ZR g2.keeps.size G.size);clear s C hL r aj b3;go_wp2;rw[<-A];refine leaves_cons (f:=127) (args:=#[.pointer (some ⟨b,0,none⟩),.pointer (some ⟨x,0,none⟩)]) (by simp) (by simp[go_sem]) ?_;refine(uh b x .returning _ x6 ch.out).mono ?_;rintro e u' w7 ⟨rfl,rfl,ap,k7⟩;refine⟨_,Yu rfl rfl (k7.same ao.out (fun e=>j e)),cg.out _ _ (cf.out.shut a1.out ⟨_,c8.out⟩ ar u Z O an j k6 k7 ap Y (by rw[HX.out];exact ZQ _))⟩
def Xi(S:jc)(R:DStep)(m2:Rf.Man)(No Yes:jc->Prop):Prop :=
 ∃ S1,xi S S1/\((¬qh S/\No S1)\/∃ S2 ok2,R S1 S2 ok2/\((ok2=false/\No S2) \/
  (ok2=true/\(((jc.zj (ju m2) S2).2=true/\Yes (jc.zj (ju m2) S2).1)\/((jc.zj (ju m2) S2).2=false/\No (jc.zj (ju m2) S2).1)))))
theorem Xi.mono{S:jc}{n g i d:jc->Prop}(h:Xi S R m2 n g)(l:∀ T,n T->i T)(o:∀ T,g T->d T):Xi S R m2 i d:=by
 obtain⟨k,j,⟨a,b⟩|⟨m,f,r,⟨a,b⟩|⟨a,⟨b,c⟩|⟨b,c⟩⟩⟩⟩:=h
 ·exact⟨k,j,.inl ⟨a,l _ b⟩⟩
 ·exact⟨k,j,.inr ⟨m,f,r,.inl ⟨a,l _ b⟩⟩⟩
 ·exact⟨k,j,.inr ⟨m,f,r,.inr ⟨a,.inl ⟨b,o _ c⟩⟩⟩⟩
 ·exact⟨k,j,.inr ⟨m,f,r,.inr ⟨a,.inr ⟨b,l _ c⟩⟩⟩⟩
theorem Qu.steps{ρ:Nat->j3}{last:Nat}{S:jc}(h:Qu E B w ρ d b S k R m2 last ml e w') :
 Xi S R m2 (fun T=>sq E B w ρ d b T k e w') (fun T=>e = .returned .nilIface/\gw E B w ρ d b T k m2 last ml w'):=h
def jaa(E:Nat->Addr)(B:Nat)(w:World)(ρ:Nat->j3)(d k:Nat)(e:Ending)(w':World)(T:jc):Prop :=
 e = .returned (.tuple #[.pointer none,.int .i64 1])/\∃ ρ',Dk E B w' ρ' d T/\Fit k T/\ja w w' (fun i=>ρ i≠ .none)/\(∀ i,i<w.heap.size->ρ' i=ρ i)
def Vy(E:Nat->Addr)(B:Nat)(w:World)(ρ:Nat->j3)(d k:Nat)(m:Rf.Man)(last:Nat)(ml:List Rf.Ch)(e:Ending)(w':World)(T:jc):Prop :=
 ∃ b ρ' rv mv,e = .returned (.tuple #[.pointer (some ⟨b,0,none⟩),.int .i64 0])/\w.heap.size<=b/\StM E B w' ρ' d b T k m last ml false rv mv/\ja w w' (fun i=>ρ i≠ .none)/\(∀ i,i<w.heap.size->ρ' i=ρ i)/\(∀ g,mv.ownBlock=some g->w.heap.size<=g)/\(∀ p n c,rv = .slice (some p) n c->w.heap.size<=p.block)
theorem jeg{ρ:Nat->j3}{last:Nat}{S:jc}(D:Dk E B w ρ d S)(h:∀ W,ja w W (fun _=>False)->∀ b,W.heap[b]?=some (.cells (newRow d) 121 (0,0))->ρ b = .none->B<=b->Calls prog 83 #[.pointer (some ⟨b,0,none⟩)] W (Qu E B W ρ d b S k R m2 last ml)) :
 Calls prog 45 #[.pointer (some ⟨d,0,none⟩)] w fun e w'=>Xi S R m2 (jaa E B w ρ d k e w') (Vy E B w ρ d k m2 last ml e w'):=by
 obtain⟨b,m⟩:∃ b,b=w.heap.size:=⟨_,rfl⟩;obtain⟨q,j⟩:∃ q,q=w.alloc (.cells (newRow d) 121):=⟨_,rfl⟩;have A:ja w q (fun _=>False):=by rw[j];exact ja.alloc _ _ _
 have u:q.heap[b]?=some (.cells (newRow d) 121 (0,0)):=by rw[j,m];exact je _ _
 have l:=h q A b u (yD (fun hn=>by have:=D.rep.lt b hn;omega)) (by rw[m];exact D.size);have L:=jb l;have o:=jb m;clear l u h m;go_enter func45,ntmps45;go_wp2_with fail;rw[<-j,<-o.out];clear j;refine L.out.mono ?_;intro e w2 r;have kb:∀ {z:World},ja q z (fun i=>ρ i≠ .none\/i=b)->ja w z (fun i=>ρ i≠ .none):=fun kk=>(A.up).trans kk (fun i hi h=>h.elim id (fun e=>by have:=o.out;omega));have sz:=A.size;rcases r.cases with⟨rfl,T,l,f⟩|⟨T,v,rfl,s,f⟩
 ·have HS:=jb r.steps
  clear r f l;go_wp2;go_ret2;refine HS.out.mono (fun T hT=>?_) (fun T hT=>?_)
  ·obtain⟨⟨v,e,y⟩,_⟩:=hT
   cases e;obtain⟨t,a,e⟩:=y.shape;cases e
  ·obtain⟨_,N,C,F,X,V,H,I,x⟩:=hT
   exact⟨b,N,C,F,rfl,by rw[o.out];exact ZQ _,X,kb V,fun i hi=>H i (by omega),fun g hg=>by have:=I g hg;omega,fun p n c e=>by have:=x p n c e;omega⟩
 ·obtain⟨⟨v',e,y⟩,J⟩:=id s
  cases e;obtain⟨N,D2,_⟩:=J;have M:=jb (Sf D2.z8 y);obtain⟨t,a,rfl⟩:=y.shape;have HS:=jb r.steps;clear r f s;go_wp2_with fail;refine M.out.mono ?_;rintro e z ⟨rfl,rfl⟩;go_wp2;go_ret2;refine HS.out.mono (fun T hT=>?_) (fun T hT=>?_)
  ·obtain⟨_,O,Z,Y,U,G,_⟩:=hT
   exact⟨rfl,O,Z,Y,kb U,fun i hi=>G i (by omega)⟩
  ·obtain⟨e,_⟩:=hT
   cases e
end Go.Proofs.YtnipbplghijdmaaGreatDoor
namespace Go.Proofs.YtnipbplghijdmaaGreatDoor
open RowKit Maps WideShapes Go.Proofs.Tryz
variable {S S':jc} {U:Nat} {m:Rf.Man} {bls:List (List Rf.Ch)} {Q R:Want} {s:Rf.St}
theorem gu{b:List Rf.Ch}(h:Rf.zm b=true)(n:Nat):(Rf.jl n b).length<=600:=by
 obtain⟨g,f,c⟩:=(Rf.Ji b).1 h;have d:=Rf.Yy c;have e:(Rf.jl n b).length=17+(b.flatMap Rf.entry).length:=by simp only[Rf.jl,Rf.frame,ZC,Rf.js];omega
 omega
theorem je3{m:Rf.Man}{d bs u:List (List Rf.Ch)}(h:(⟨m,bs++u,d⟩:Rf.St).Ok)(i:Nat):(⟨m,bs++u.take i,d⟩:Rf.St).Ok:=by
 refine⟨h.yy,h.runs,h.len,h.bl,fun b c=>h.log b ?_,?_⟩
 ·rcases ZV.1 c with c|c
  ·exact xX _ c
  ·exact xY _ (ZU c)
 ·have:=h.cap
  unfold Rf.St.last at this ⊢;simp only[ZC,ZN] at this ⊢;omega
theorem Em.yy{a:jy}{m:Rf.Man}{c bs u:List (List Rf.Ch)}{g:List UInt8}(h:Em a m.last bs u g)(d:(⟨m,bs++u,c⟩:Rf.St).Ok)(k:∀ i,i<=u.length->Q.Jj ⟨m,bs++u.take i,c⟩)(l:Q.now ⟨m,bs++u,c⟩)(f:∀ i,i<=u.length->Q.Qc ⟨m,bs++u.take i,c⟩):Jg m c Q a:=by
 refine⟨fun ch=>?_,bs++u,g,h.bytes,h.stub.over _ _,d,l,fun _=>by have:=f u.length (ZQ _);rwa [ZE] at this⟩
 ·obtain⟨i,q,j,p,o⟩:=h.settled (fun b hb n=>by have:=gu (d.log b (xY _ hb)) n;omega) ch
  exact⟨bs++u.take i,q,p,o _ _,je3 d i,k i j,fun _=>f i j⟩
theorem jcz:∀(u:List (List Rf.Ch)) (p k:Nat) (b:List Rf.Ch),pcs p (k+1) (u++[b])=pcs p (k+1) u++[(p+(Rf.jk k u).length,(Rf.jl (k+u.length+1) b).length)]:=by
 intro u
 induction u with
 | nil=>intro p k b;simp[pcs,Rf.jk]
 | cons x r ih =>
  intro p k b;rw[zW,pcs,ih,pcs,zW];have e:k+1+r.length+1=k+(x::r).length+1:=by rw[zP];omega
  rw[e,Qy,ZC,xF p]
theorem jcq{a:jy}(h:a.Wf)(x:List UInt8):(a.put x).Wf:=by
 unfold jy.put
 split
 ·exact h
 ·rename_i e
  have b:0<x.length:=ZY.2 e;refine⟨?_,?_⟩
  ·show a.safe<=(a.bytes++x).length
   rw[ZC];have:=h.1;omega
  ·show su a.safe (a.late++[(a.bytes.length,x.length)]) (a.bytes++x).length
   rw[ZC];exact h.2.snoc _ b
theorem Em.put{a:jy}{last:Nat}{bs u:List (List Rf.Ch)}(h:Em a last bs u [])(b:List Rf.Ch):Em (a.put (Rf.jl (last+(bs++u).length+1) b)) last bs (u++[b]) []:=by
 have d:=h.bytes;rw[ZB] at d;have c:=vy (last+(bs++u).length+1) b;have f:Rf.jl (last+(bs++u).length+1) b≠[]:=fun e=>by rw[e] at c;simp at c
 have g:=h.late;unfold jy.put;rw[if_neg f];refine⟨?_,h.safe,?_,og.nil⟩
 ·show a.bytes++_=_
  rw[d,ZB,<-zF bs u [b],Rf.ai]
 ·show a.late++_=_
  rw[g];simp only[Y7,if_true,ZB];rw[jcz,d,Qm,ZC];have e:last+(bs++u).length+1=last+bs.length+u.length+1:=by rw[ZC];omega
  rw[e]
theorem Em.half{a:jy}{last:Nat}{bs u:List (List Rf.Ch)}(h:Em a last bs u []){x:List UInt8}(d:og x)(b:x≠[]):Em (a.put x) last bs u x:=by
 have c:=h.bytes;rw[ZB] at c;unfold jy.put;rw[if_neg b];refine⟨?_,h.safe,?_,d⟩
 ·show a.bytes++_=_
  rw[c]
 ·show a.late++_=_
  rw[h.late,c,Qm,ZC];simp[Y7,b]
structure Norm(S:jc)(U:Nat)(s:Rf.St)(Q:Want):Prop where
 pow:Pow S U s.m s.bls Q
 late:S.late=[]
 log:At S (jh s.m.log) (fun a=>∃ bs u,s.bs=bs++u/\Em a s.m.last bs u []/\∀ i,i<=u.length->Q.Jj ⟨s.m,bs++u.take i,s.bls⟩)
 now:Q.now s
 ok:s.Ok
 only:Qe S (ju s.m)
def Safe(S:jc)(U:Nat)(Q:Want):Prop:=∃ m bls,Pow S U m bls Q
theorem Norm.safe(h:Norm S U s Q):Safe S U Q:=⟨s.m,s.bls,h.pow⟩
theorem Norm.mono(h:Norm S U s Q){V:Nat}(c:U<=V)(b:Q.Le R):Norm S V s R :=
 ⟨h.pow.mono c b,h.late,h.log.mono (fun a ⟨bs,u,e,hl,hq⟩=>⟨bs,u,e,hl,fun i hi=>b.Jj _ (hq i hi)⟩),b.now _ h.now,h.ok,h.only⟩
theorem Norm.looked(h:Norm S U s Q)(b:xi S S'):Norm S' U s Q :=
 ⟨b.pow h.pow,by rw[b.late];exact h.late,b.at h.log,h.now,h.ok,h.only.zr b.names⟩
theorem Sat.apart{T:List Tok}{fs:Fls}{n x:Str}{P:jy->Prop}{f:Nat}{a':jy}(h:Sat T fs n P)(u:T.Pairwise (fun p q=>p.2≠q.2))(s:(x,f)∈T)(t:n≠x):Sat T (fs.put f a') n P:=by
 obtain⟨g,b,r,y,v⟩:=h;refine⟨g,b,r,(fs.yu a' (fun e=>?_)).trans y,v⟩;subst e;rcases XX.1 r with⟨i,o,l⟩;rcases XX.1 s with⟨j,m,k⟩;have d:=XY.1 u;rcases Nat.lt_trichotomy i j with c|c|c
 ·exact(d i j o m c) (by rw[l,k])
 ·subst c;rw[l] at k;cases k;exact t rfl
 ·exact(d j i m o c) (by rw[l,k])
theorem vl{m:Rf.Man}{b:List (List Rf.Ch)}{p:Str×List UInt8}(c:p∈qn m.settled b)(n:Nat):p.1≠jh n:=by
 obtain⟨q,d,rfl⟩:=J8.1 c;exact fun e=>Yf _ _ e.symm
theorem Norm.jdf(h:Norm S U s Q){f c:Nat}{a a':jy}(y:S.at (jh s.m.log)=some f)(o:S.files f=some a)(t:a'.Wf)(v:a'.bytes.length<=a.bytes.length+c)(B:U+c<=60000)(u:Jg s.m s.bls R a'):Pow ((S.called true).withFile f a') (U+c) s.m s.bls R:=by
 obtain⟨T,k,q⟩:=h.pow.cur;have l:=k.fs.at.1 y
 have A:a.bytes.length<=U:=by
  have C:=k.size
  have z:∀ {T:List Tok},(jh s.m.log,f)∈T->a.bytes.length<=Zp S.files T:=by
   intro T g
   induction T with
   | nil=>cases g
   | cons x r ih =>
    rw[Qi];rcases zN.1 g with e|g
    ·subst e
     have:yc S.files f=a.bytes:=by unfold yc;rw[o];rfl
     simp only[this];omega
    ·have:=ih g
     omega
  have:=z l;omega
 have j:Qv (Fls.put S.files f a') (U+c) s.m s.bls R S.names:=by
  refine⟨T,k.write o v,(q.man.apart k.apart l (tg _)),fun p hp=>(q.runs p hp).apart k.apart l (vl hp _),⟨f,a',l,Fls.yl _ _ _,u⟩⟩
 have g:=h.pow.tied;rw[h.late] at g;refine⟨by show S.names=S.late.foldl doA S.safe;rw[h.late];exact g,fun i b hb=>?_,fun i b hb=>?_,?_,j⟩
 ·have d:Fls.put S.files f a' i=some b:=hb
  by_cases e:i=f
  ·subst e;rw[Fls.yl] at d;cases d;exact t
  ·rw[Fls.yu _ _ e] at d;exact h.pow.wf i b d
 ·have d:Fls.put S.files f a' i=some b:=hb
  by_cases e:i=f
  ·subst e;rw[Fls.yl] at d;cases d;omega
  ·rw[Fls.yu _ _ e] at d;exact h.pow.small i b d
 ·show sv (Mj (Fls.put S.files f a') (U+c) R) S.safe S.late
  rw[h.late];have n:S.names=S.safe:=g;show Mj _ _ _ S.safe;rw[<-n];exact⟨_,_,j⟩
theorem Norm.write(h:Norm S U s Q){b:List Rf.Ch}{B:Bool}(T:Rf.zm b=true)(Y:s.last<1000000000)(W:U+600<=60000){R':Want}(hQ:∀ t,Q.Jj t->R.Jj t)(C:R.now (s.write b))(N:∀ t,Q.Jj t->R'.Jj t)(M:R'.now s)(hT:∀ l,l <+: (s.write b).bs->R.Qc ⟨s.m,l,s.bls⟩)(I:∀ l,l <+: s.bs->R'.Qc ⟨s.m,l,s.bls⟩)(r:Kc (jh s.m.log) (Rf.jl (s.last+1) b) S S' B) :
 (B=true->Norm S' (U+600) (s.write b) R)/\(B=false->Pow S' (U+600) s.m s.bls R'/\S'.late=[]/\Qe S' (ju s.m)):=by
 obtain⟨f,a,A,z,X⟩:=r;obtain⟨f',a1,y,v,bs,u,c,V,O⟩:=h.log;rw[A] at y;cases y;rw[z] at v;cases v;have n:=h.pow.wf f a z;have a3:=gu T (s.last+1);have g:=vy (s.last+1) b;have j:s.last+1=s.m.last+(bs++u).length+1:=by show s.m.last+s.bs.length+1=_;rw[c]
 have d:∀ x:List UInt8,(a.put x).bytes.length<=a.bytes.length+x.length:=fun x=>by
  unfold jy.put
  split
  ·omega
  ·show(a.bytes++x).length<=_;rw[ZC];exact ZQ _
 have Z:(⟨s.m,bs++u,s.bls⟩:Rf.St).Ok:=by have:=h.ok;rw[show s=⟨s.m,s.bs,s.bls⟩from rfl,c] at this;exact this
 rcases X with⟨_,rfl,rfl⟩|⟨_,_,rfl,rfl⟩
 ·refine⟨fun t=>(by cases t),fun _=>?_⟩
  obtain⟨l,F,H⟩:=Cz (s.last+1) b (by omega)
  have D:og ((Rf.jl (s.last+1) b).take ((Rf.jl (s.last+1) b).length/2)):=by
   rw[H] at g ⊢;exact og.of F (by omega)
  have E:(Rf.jl (s.last+1) b).take ((Rf.jl (s.last+1) b).length/2)≠[]:=fun e=>by
   have:=congrArg List.length e;rw[ZN,zQ] at this;omega
  have k:=V.half D E;have L:R'.now ⟨s.m,bs++u,s.bls⟩:=by rw[<-c];exact M
  exact⟨h.jdf A z (jcq n _) (ZR (d _) (by rw[ZN];omega)) W (k.yy Z (fun i hi=>N _ (O i hi)) L (fun i hi=>I _ (by rw[c];exact(List.prefix_append_right_inj _).2 (List.take_prefix _ _)))),h.late,h.only.zr rfl⟩
 ·refine⟨fun _=>?_,fun t=>(by cases t)⟩
  have k:=V.put b;rw[<-j] at k;have p:=h.ok.write T Y
  have G:(⟨s.m,bs++(u++[b]),s.bls⟩:Rf.St).Ok:=by
   have:(⟨s.m,s.bs++[b],s.bls⟩:Rf.St).Ok:=p;rwa [c,zF] at this
  have J:R.now ⟨s.m,bs++(u++[b]),s.bls⟩:=by rw[<-zF,<-c];exact C
  have o:∀ i,i<=(u++[b]).length->R.Jj ⟨s.m,bs++(u++[b]).take i,s.bls⟩:=fun i hi=>by
   rcases ZM u.length i with a4|q
   ·rw[ZF (by rw[ZC,xO];omega),<-zF,<-c]
    exact R.le _ C
   ·rw[XE q]
    exact hQ _ (O i q)
  exact⟨h.jdf A z (jcq n _) (ZR (d _) (by omega)) W (k.yy G o J (fun i hi=>hT _ (by show _ <+: s.bs++[b];rw[c,zF];exact(List.prefix_append_right_inj _).2 (List.take_prefix _ _)))),h.late,⟨f,_,A,Fls.yl _ _ _,bs,u++[b],by show s.bs++[b]=_;rw[c,zF],k,o⟩,C,p,h.only.zr rfl⟩
theorem yt.jgi{a:jy}{last:Nat}{bs:List (List Rf.Ch)}(h:yt (Rf.jk last bs) a):Em a last bs [] [] :=
 ⟨by rw[h.bytes,ZB,ZB],h.safe,by rw[h.late];simp[pcs,Y7],og.nil⟩
theorem Pow.again{bs:List (List Rf.Ch)}(h:Pow S U m bls Q)(f:S.late=[])(l:At S (jh m.log) (yt (Rf.jk m.last bs)))(j:(⟨m,bs,bls⟩:Rf.St).Ok)(k:R.now ⟨m,bs,bls⟩):Pow S U m bls R:=by
 obtain⟨T,i,g⟩:=h.cur;have b:Qv S.files U m bls R S.names:=⟨T,i,g.man,g.runs,((At.sat i).1 l).mono (fun a q=>Jg.sure q j k)⟩;have d:=h.tied;rw[f] at d;have c:S.names=S.safe:=d;exact⟨h.tied,h.wf,h.small,by rw[f];show Mj _ _ _ S.safe;rw[<-c];exact⟨_,_,b⟩,b⟩
theorem Norm.again(h:Norm S U s Q)(c:At S (jh s.m.log) (yt (Rf.jk s.m.last s.bs)))(b:R.now s):Norm S U s R:=by
 refine⟨h.pow.again h.late c h.ok b,h.late,c.mono (fun a q=>⟨s.bs,[],by rw[ZB],q.jgi,fun i hi=>?_⟩),b,h.ok,h.only⟩;have:i=0:=Nat.le_zero.1 hi;subst this;simpa using R.le _ b
theorem Norm.sync(h:Norm S U s Q)(d:(S.qm (jh s.m.log)).2=true):Norm (S.qm (jh s.m.log)).1 U s Q.whole/\At (S.qm (jh s.m.log)).1 (jh s.m.log) (yt (Rf.jk s.m.last s.bs)):=by
 have f:=sx (jh s.m.log) d h.log
 have b:At (S.qm (jh s.m.log)).1 (jh s.m.log) (yt (Rf.jk s.m.last s.bs)):=f.mono (fun a ⟨a0,⟨bs,u,e,hF,hq⟩,ea⟩=>by
  have c:=hF.bytes
  rw[ZB,<-e] at c
  rw[ea]
  exact⟨c,by show a0.bytes.length=_;rw[c],rfl⟩)
 have g:Norm (S.qm (jh s.m.log)).1 U s Q:=by
  refine⟨h.pow.sync _,by rw[(B9 S _).2];exact h.late,b.mono (fun a q1=>⟨s.bs,[],by rw[ZB],q1.jgi,fun i hi=>?_⟩),h.now,h.ok,h.only.zr (an _ _)⟩;have:i=0:=Nat.le_zero.1 hi;subst this;simpa using Q.le _ h.now
 exact⟨g.again b h.now,b⟩
end Go.Proofs.YtnipbplghijdmaaGreatDoor
