/-
  D: BegunR GetR SureR PlayR TellsR NamesR DegR.
-/
import Derived.Test.YtnipbplghijdmaaGreatDoorD47
set_option maxRecDepth 100000
set_option maxHeartbeats 8000000
set_option linter.unusedVariables false
set_option linter.unusedSimpArgs false
namespace Go.Proofs.YtnipbplghijdmaaGreatDoor
open RowKit Maps WideShapes Go.Proofs.Tryz
variable {E:Nat->Addr} {B:Nat} {w w':World}
def jhk(E:Nat->Addr)(B:Nat)(w:World)(e:Ending)(w':World):Prop :=
 ∃ kb d b S F,e = .returned (.pointer (some ⟨kb,0,none⟩))/\Bk E B w kb d b S Rf.St.first (.slice none 0 0) [] false 0 false F w'/\J3 S Rf.St.first [] false 0 2 0 false/\qe S/\ja w w' (fun _=>False)
theorem jf5(H:Env E B w)(R:B<=w.heap.size):Calls prog 22 #[] w (jhk E B w):=by
 have v:=jb (jgf H R);go_enter func22,ntmps22;go_wp2_with fail;refine v.out.mono ?_;rintro e y ⟨d,ρ,rfl,x,M,N⟩;obtain⟨kb,k⟩:∃ kb,kb=y.heap.size:=⟨_,rfl⟩;obtain⟨l,c⟩:∃ l,l=y.alloc (.cells #[.pointer (some ⟨d,0,none⟩),.pointer none,.slice none 0 0,.bool false,.int .i64 0,.bool false] 51):=⟨_,rfl⟩;have L:ja y l (fun _=>False):=by rw[c];exact ja.alloc _ _ _
 have q:l.heap[kb]?=some (.cells #[.pointer (some ⟨d,0,none⟩),.pointer none,.slice none 0 0,.bool false,.int .i64 0,.bool false] 51 (0,0)):=by rw[c,k];exact je _ _
 have j:ja w l (fun _=>False):=M.tt L;have C:=jb (Hb (x.same L) (H.same j));have m:ρ kb = .none:=yE (fun hn=>by have:=x.rep.lt kb hn;omega);have g:=jb k;have s:=jb q;have Z:=M.size;have a0:=jb x;clear k q x;go_wp2_with fail;rw[<-c];clear c;refine C.out.mono ?_;rintro e V ⟨b,F,X,rfl,hb,T,U,S,J,O⟩;have f:=J.same s.out (fun t=>t m);have W:=zA (o:=1) f;have f1:=zB (o:=1) f;simp at W;have G:=jb f
 have p:¬F kb:=fun h=>by
  rcases O kb h with t|t
  ·exact t m
  ·have:=zC s.out;omega
 have z:B<=kb:=by have:=g.out;omega
 have D:=jb U;have A:=jb S;have r:=jb T;rw[<-g.out];clear f U S T;go_wp2;go_ret;have I:=ja.setCell V ⟨kb,1,none⟩ (.pointer (some ⟨b,0,none⟩));obtain⟨_,_,Y,_⟩:=r.out.xi
 have u:∀ i,F i->w.heap.size<=i:=fun i hi=>by
  rcases O i hi with t|t
  ·exact N i t
  ·have:=j.size
   omega
 refine⟨kb,d,b,X,F,rfl,⟨(jd G.out _).trans rfl,(r.out.keep I (fun i _ e=>by rw[e];exact⟨z,p⟩)).fit (Y.mono (by omega)),Wr.first _ _ _,⟨p,by have:=g.out;omega⟩,u,R⟩,J3.opened (ess:=[]) (n:=0) D.out (zJ _) (fun b h=>(by cases h)) (zJ _),A.out,(j.trans J (fun i hi t=>by have:=N i t;omega)).trans I (fun i hi e=>by have e':i=kb:=e;have:=g.out;omega)⟩
end Go.Proofs.YtnipbplghijdmaaGreatDoor
namespace Go.Proofs.YtnipbplghijdmaaGreatDoor
open RowKit Maps WideShapes Go.Proofs.Tryz
theorem Vr(key:Str):∀(ls:List (List Rf.Ch)),(∀ l∈ls,Rf.jw l)->∀(S:jc),∃ S',qo S S'/\(zy key (xz (ls.map Rf.chunks) key) S=(S',.inl (Rf.mr ls key))\/(zy key (xz (ls.map Rf.chunks) key) S=(S',.inr true)/\¬qe S)):=by
 intro ls
 induction ls with
 | nil=>intro _ S;exact⟨S,qo.refl S,.inl rfl⟩
 | cons l r ih =>
  intro d S;have f:zy key (xz ((l::r).map Rf.chunks) key) S=zy key (Y9 (Rf.chunks l) key::xz (r.map Rf.chunks) key) S:=rfl;rw[f]
  cases hb:S.bad with
  | true =>
   have b:Y9 (Rf.chunks l) key S=(S.called false,[],some true):=by
    unfold Y9 py Zx;rw[hb];rfl
   rw[bh,b];exact⟨_,qo.called S,.inr ⟨rfl,fun w=>by rw[w.bad] at hb;cases hb⟩⟩
  | false =>
   have b:Y9 (Rf.chunks l) key S=(S.called false,l.filter (Rf.qk key),none):=by
    unfold Y9 py Zx;rw[hb,Rf.Xz];rfl
   rw[C3 (d l zR) b,Rf.X5]
   cases hg:Rf.x8 l key with
   | some c=>exact⟨_,qo.called S,.inl rfl⟩
   | none =>
    obtain⟨S',i,g⟩:=ih (fun x hx=>d x (zQ _ hx)) (S.called false);exact⟨S',(qo.called S).trans i,g.imp id (fun h=>⟨h.1,fun w=>h.2 (w.called false)⟩)⟩
theorem jg9{s:Rf.St}(h:s.Ok)(key:Str)(S:jc):∃ S',qo S S'/\(zy key (Y2 (s.mem.drop (Rf.below s.mem key))::xz (s.bls.map Rf.chunks) key) S=(S',.inl (Rf.x8 s.all key))\/(zy key (Y2 (s.mem.drop (Rf.below s.mem key))::xz (s.bls.map Rf.chunks) key) S=(S',.inr true)/\¬qe S)):=by
 have f:s.mem.drop (Rf.below s.mem key)=s.mem.filter (Rf.qk key):=Rf.vy (Rf.zb _) key
 have b:∀ l∈s.mem::s.bls,Rf.jw l:=fun l d=>by
  rcases zF.1 d with rfl|d
  ·exact Rf.zb _
  ·exact jdl h l d
 rw[C3 (l:=s.mem) (T:=S) (Rf.zb _) (by unfold Y2;rw[f])];unfold Rf.St.all;rw[Rf.Zi b,Rf.X5]
 cases hg:Rf.x8 s.mem key with
 | some c=>exact⟨S,qo.refl S,.inl rfl⟩
 | none=>exact Vr key s.bls (jdl h) S
variable {E:Nat->Addr} {B:Nat} {w w':World} {d b k U V:Nat} {S S':jc} {s:Rf.St} {deg:Bool} {F:Nat->Prop}
theorem jea(O:Qu E B w d b S k s deg F)(i:s.Ok)(r:Jm S s)(D:k<540000000000)(key:Str) :
 Calls prog 33 #[.pointer (some ⟨b,0,none⟩),jf key] w fun e w'=>∃ S',qo S S'/\((e = .returned (.tuple #[jf (Lj (Rf.x8 s.all key)).1,.bool (Lj (Rf.x8 s.all key)).2,.int .i64 0])/\qg E B w d b S' k s deg F w') \/
  (¬qe S/\e = .returned (.tuple #[jf [],.bool false,.int .i64 1])/\qg E B w d b S' k s true F w')):=by
 obtain⟨ρ,rv,u,T,x⟩:=O;have A:Bg s.m s.bls k S:=⟨T.fit,r.bytes⟩;have R:=pn i.y7 i.len i.bl (k:=k) (by omega);have C:=T.ay;obtain⟨S',q,e⟩:=jg9 i key S;refine(jfx s.m rv (jg s.last) u s.mem deg (s.bls.map Rf.chunks) T.env T.xi A R T.row (fun h=>h T.nb.1) T.nb.2 T.runs (by omega) (Je T.mem) (Mh i T.few) (fun p n c e=>?_) key).mono ?_
 ·have j:u.ownBlock=some p.block:=by rw[e];rfl
  exact⟨fun t=>t (T.nm _ j).1,(T.mem.lt _ j).2⟩
 ·rintro H w' ⟨v,l,G,h⟩
  have y:=q.fit T.fit;rcases e with e|⟨e,z⟩
  ·rw[e] at l h
   refine⟨S',q,.inl ?_⟩;rcases h with⟨o,g,rfl,f⟩|⟨bad,g,_⟩
   ·cases g
    exact⟨rfl,qg.of (s':=s) T x (T.next v (fun _ _=>rfl) l y f)⟩
   ·cases g
  ·rw[e] at l h
   refine⟨S',q,.inr ⟨z,?_⟩⟩;rcases h with⟨o,g,_⟩|⟨bad,g,rfl,f⟩
   ·cases g
   ·exact⟨rfl,qg.of (s':=s) T x (T.next v (fun _ _=>rfl) l y f)⟩
theorem jd9{s:Rf.St}(i:s.Ok){c:Rf.Ch}(d:c∈s.tell):Lj (Rf.x8 s.all c.key)=(c.value,true):=by
 have b:Rf.jw s.all:=Rf.yr _;have f:c∈s.all:=Rf.Bm _ c d;have g:c.gone=false:=(Rf.St.Lv s).1 c d;have e:Rf.x8 s.all c.key=some c:=Rf.dd b f;rw[e];unfold Lj;simp[g]
end Go.Proofs.YtnipbplghijdmaaGreatDoor
namespace Go.Proofs.YtnipbplghijdmaaGreatDoor
open RowKit Maps WideShapes Go.Proofs.Tryz
variable {E:Nat->Addr} {B:Nat} {w W W':World} {d b k U:Nat} {S S':jc} {s:Rf.St} {deg:Bool} {F:Nat->Prop} {Q:Want}
theorem qg.new(f:ja w W (fun _=>False))(g:∀ i,F i->w.heap.size<=i)(h:qg E B W d b S k s deg F W') :
 ∃ F',Qu E B W' d b S k s deg F'/\(∀ i,F' i->w.heap.size<=i)/\ja w W' (fun _=>False):=by
 obtain⟨F',O,j,c⟩:=h;refine⟨F',O,fun i hi=>?_,f.trans j (fun i hi t=>by have:=g i t;omega)⟩;rcases c i hi with t|t
 ·exact g i t
 ·exact ZI f.size t
theorem Norm.wy(h:Norm S U s Q):total S.files S.names<=Go.Proofs.YtnipbplghijdmaaGreatDoor.qu s.files:=by
 obtain⟨V,i,e,_⟩:=h.M0;rw[<-e]
 have o:∀ p∈s.files,p∈V:=fun p j=>by
  rcases Z5.1 j with rfl|rfl|j
  ·obtain⟨f,a,d,g,b⟩:=h.pow.held.1
   have:=i.of d g;rwa [b.bytes] at this
  ·obtain⟨f,a,d,g,b⟩:=h.tq
   have:=i.of d g;rwa [b.1] at this
  ·obtain⟨f,a,d,g,b⟩:=h.Q5 p j
   have:=i.of d g;rwa [b.bytes] at this
 unfold Go.Proofs.YtnipbplghijdmaaGreatDoor.qu;refine E5 _ (List.Pairwise.imp (fun hac e=>hac (by rw[e])) i.apart) (fun p j=>?_);obtain⟨f,a,d,g,b⟩:=i.get j
 have r:∃ c,(p.1,c)∈s.files:=by
  rcases Qh.1 (h.only p.1 f d)with⟨k,t,e⟩|e|e
  ·exact h.ok.there p.1 (ZB _ (by rw[e];exact zS.2 ⟨k,t,rfl⟩))
  ·exact h.ok.there p.1 (zY _ (by rw[e];exact zZ.2 rfl))
  ·exact⟨_,Z5.2 (.inl (by rw[e]))⟩
 obtain⟨c,q⟩:=r;obtain⟨y,a',n,m,l⟩:=i.get (o _ q);rw[d] at n;cases n;rw[g] at m;cases m
 have u:p=(p.1,c):=by
  obtain⟨x,v⟩:=p;simp only at b l ⊢;rw[<-b,<-l]
 rw[u];exact q
theorem jam{l:List Rf.Ch}(h:Rf.jw l)(k:Str):Lj (Rf.x8 l k)=(match Rf.x8 (Rf.there l) k with|some c=>(c.value,true)|none=>([],false)):=by
 rw[Rf.bg h]
 cases Rf.x8 l k with
 | none=>rfl
 | some c=>by_cases hg:c.gone=true<;>simp[Lj,Option.filter,hg]
def eA:List Rf.Ch:=[⟨[107],[118],false⟩,⟨[108],[119],false⟩]
def eB:List Rf.Ch:=[⟨[108],[],true⟩]
def suA:Rf.St:=Rf.St.first.write eA
def suB:Rf.St:=suA.flush
def suC:Rf.St:=suB.write eB
theorem jcs:qu Rf.St.first.files<=5000:=by decide +kernel
theorem jh3:qu suA.files<=5000:=by decide +kernel
theorem jh2:qu suB.files<=5000:=by decide +kernel
theorem jhn:qu suC.files<=5000:=by decide +kernel
theorem jgp(h:s.tell=Rf.zj [eA,eB]):Lj (Rf.x8 s.all [107])=([118],true)/\Lj (Rf.x8 s.all [108])=([],false):=by
 have b:Rf.there s.all=Rf.zj [eA,eB]:=h;rw[jam (Rf.St.ni _),jam (Rf.St.ni _),b];constructor<;>decide +kernel
theorem jgo:Rf.zq eA=true:=by decide
theorem jgn:Rf.zq eB=true:=by decide
theorem Wq{ess:List (List Rf.Ch)}{N L:Nat}(O:Qu E B w d b S 60000 s false F)(n:Norm S U s (qi ess 0 ess.length N L))(u:qu s.files<=5000)(r:qe S)(m:Value)(f:List Rf.Ch)(i:Rf.zq f=true)(q:Chs w m f)(j:∀ p n c,m = .slice (some p) n c->¬F p.block)(y:L<1000000000) :
 Calls prog 24 #[.pointer (some ⟨b,0,none⟩),m] w fun e w'=>e = .returned (.int .i64 0)/\∃ S',qg E B w d b S' 60000 (s.write f) false F w'/\Norm S' 6000 (s.write f) (qi (ess++[f]) 0 (ess.length+1) N (L+1))/\qe S':=by
 have g:total S.files S.names<=5000:=ZI n.wy u;have k:=n.reset g;refine(Ws (U:=5400) (R:=qi (ess++[f]) 0 (ess.length+1) N (L+1)) (R':=qi (ess++[f]) 0 ess.length N (L+1)) O k (by omega) (by omega) m f i q j (by have:=k.now.1.2.1;omega) (fun t g=>qi.snoc g _) (qi.write k.now f (zG _)) (fun t g=>qi.snoc g _) (qi.Lu k.now f (zG _)) (fun l hl=>tg (s:=s.write f) (Fj u i) hl) (fun l hl=>tg (s:=s) (by omega) hl)).mono ?_;rintro e w' (⟨rfl,S',x,v,_,o⟩|⟨_,S',_,_,_,_,o⟩)
 ·exact⟨rfl,S',x,v,o r⟩
 ·exact absurd r o
theorem jgm(H:Env E B w)(hB:B<=w.heap.size):Calls prog 21 #[] w fun e w'=>e = .returned (.bool true)/\ja w w' (fun _=>False):=by
 have am:=jb (jgf H hB);go_enter func21,ntmps21;go_wp2_with fail;refine am.out.mono ?_;rintro e w1 ⟨d,ρ,rfl,D1,k1,hρ⟩;have b8:=jb (Hb D1 (H.same k1));go_wp2_with fail;refine b8.out.mono ?_;rintro e A ⟨b,G2,S2,rfl,hb,O2,N2,W2,k2,b3⟩;have N:ja w A (fun _=>False):=k1.trans k2 (fun i hi t=>by have:=hρ i t;omega)
 have b5:∀ i,G2 i->w.heap.size<=i:=fun i hi=>by
  rcases b3 i hi with t|t
  ·exact hρ i t
  ·have:=k1.size;omega
 have j:=World.ownsRow_lit (base:=w.heap.size) (e:=88) (size:=3) A #[.string ⟨#[107]⟩,.string ⟨#[118]⟩,.bool false,.string ⟨#[108]⟩,.string ⟨#[119]⟩,.bool false] 2 N.size (by unfold maxLen;omega) rfl;have o:Chs (A.alloc (.cells #[.string ⟨#[107]⟩,.string ⟨#[118]⟩,.bool false,.string ⟨#[108]⟩,.string ⟨#[119]⟩,.bool false] 88)) (.slice (some ⟨A.heap.size,0,none⟩) 2 2) eA:=Je j;have kA:=ja.alloc A (.cells #[.string ⟨#[107]⟩,.string ⟨#[118]⟩,.bool false,.string ⟨#[108]⟩,.string ⟨#[119]⟩,.bool false] 88) (fun _=>False);have HW:=jb (Wq (ess:=[]) (O2.same kA) (N2.mono (zJ _) (Want.Fc _)) jcs W2 _ eA jgo o (fun p n c e t=>by cases e;have:=(O2.old t).2;simp at this) (by decide));have b9:=jb (N.tt kA);have bn:=jb b5;clear j o O2 N2 W2 kA;go_wp2_with fail;refine HW.out.mono ?_;rintro e w3 ⟨rfl,S3,h3,C,W3⟩;obtain⟨G3,O3,a7,M⟩:=qg.new b9.out bn.out h3;have aa:=C.mono (V:=6000) (zJ _) (qi.le (N':=2+2) (by omega) (zJ _));have ah:=jb (jan O3 aa (by omega) (ZI C.wy jh3) (by have:=C.now.1.1;omega) (qi.flush C.now));have bm:=jb a7;have bf:=jb M;have ae:=jb W3;clear h3 O3 C aa W3 a7 M HW;go_wp2_with fail;refine ah.out.mono ?_;rintro e w4 (⟨rfl,S4,h4,L4,_,_,W4⟩|⟨_,S4,_,_,_,_,_,_,f⟩)
 case inr=>exact absurd ae.out f
 obtain⟨G4,O4,a6,v⟩:=qg.new bf.out bm.out h4;have g:=World.ownsRow_lit (base:=w.heap.size) (e:=88) (size:=3) w4 #[.string ⟨#[108]⟩,.string ⟨#[]⟩,.bool true] 1 v.size (by unfold maxLen;omega) rfl;have l:Chs (w4.alloc (.cells #[.string ⟨#[108]⟩,.string ⟨#[]⟩,.bool true] 88)) (.slice (some ⟨w4.heap.size,0,none⟩) 1 1) eB:=Je g;have kB:=ja.alloc w4 (.cells #[.string ⟨#[108]⟩,.string ⟨#[]⟩,.bool true] 88) (fun _=>False);have af:=jb (Wq (ess:=[eA]) (O4.same kB) L4.norm jh2 (W4 ae.out) _ eB jgn l (fun p n c e t=>by cases e;have:=(O4.old t).2;simp at this) (by decide));have bl:=jb a6;have be:=jb (v.tt kB);clear g l h4 O4 L4 W4 a6 v kB ah;go_wp2_with fail;refine af.out.mono ?_;rintro e w5 ⟨rfl,S5,h5,u,W5⟩;obtain⟨G5,O5,a5,L⟩:=qg.new be.out bl.out h5;have a9:=(u.reset (ZI u.wy jhn)).mono (V:=5400) (zJ _) (qi.le (N':=4+2) (by omega) (zJ _));have ak:=jb (Mo O5 a9 (by omega) (ZI u.wy jhn) (by have:=u.now.1.1;omega) (qi.j8 u.ok u.now));have bk:=jb a5;have bd:=jb L;have ad:=jb W5;clear h5 O5 u a9 W5 a5 L af;go_wp2_with fail;refine ak.out.mono ?_;rintro e w6 (⟨rfl,S6,h6,L6,_,W6⟩|⟨_,S6,_,_,_,_,_,_,f⟩)
 case inr=>exact absurd ad.out f
 obtain⟨G6,O6,a3,J⟩:=qg.new bd.out bk.out h6;obtain⟨ρ6,D6,al,a8⟩:=O6.xi;obtain⟨U6,m6,cg,Q6,U,P6,k,X⟩:=L6.left.rest.M1 (fun t q=>q)
 have r:=jb (U0 (V:=20000) (R:=jge [eA,eB] 2 7 2) D6 al O6.env (by omega) P6 ⟨fun _ _=>trivial,fun t ht=>by obtain⟨⟨a1,a2,_⟩,a4⟩:=k t ht;exact⟨by omega,a2,2,zJ _,by decide,a4⟩,fun _ _=>trivial⟩
  (fun t ht _=>by obtain⟨⟨a1,a2,_⟩,a4⟩:=k t ht;exact⟨by show t.m.next+1<=7;omega,a2,2,zJ _,by decide,a4⟩) (fun t ht=>by have:=(k t ht).1.1;omega) U (zJ _) X)
 have ai:=jb a3;have ag:=jb J;have ac:=jb (W6 ad.out);have aj:=jb a8;clear h6 O6 L6 W6 a3 J D6 al P6 k X U a8 ak;go_wp2_with fail;refine r.out.mono ?_;rintro e w7 (⟨_,f,_⟩|⟨b7,G7,S7,s7,rfl,cv,O7,z,_,W7,_,k7,Y⟩)
 case inl=>exact absurd ac.out f
 have I:ja w w7 (fun _=>False):=ag.out.trans k7 (fun i hi t=>by have:=ai.out i (aj.out i t);omega)
 have a0:∀ i,G7 i->w.heap.size<=i:=fun i hi=>by
  rcases Y i hi with t|t
  ·exact ai.out i (aj.out i t)
  ·have:=ag.out.size;omega
 obtain⟨_,_,n7,b1,T,S⟩:=z.now;have b0:n7=2:=by have:n7<=2:=T;omega
 subst b0;obtain⟨g1,g2⟩:=jgp (s:=s7) S;have y:=jb (jea O7 z.ok z.Q5 (by omega) [107]);rw[g1] at y
 have bh:Hid (∀ W S' F,qo S7 S'->Qu E B W d b7 S' 60000 s7 false F->Calls prog 33 #[.pointer (some ⟨b7,0,none⟩),jf [108]] W fun e w'=>∃ S'',qo S' S''/\((e = .returned (.tuple #[jf [],.bool false,.int .i64 0])/\qg E B W d b7 S'' 60000 s7 false F w')\/(¬qe S'/\e = .returned (.tuple #[jf [],.bool false,.int .i64 1])/\qg E B W d b7 S'' 60000 s7 true F w'))):=fun W S' F hL O=>by
  have:=jea O z.ok (z.Q5.alike hL.jaj) (by omega) [108];rwa [g2] at this
 have bj:=jb a0;have bc:=jb I;have ab:=jb (W7 ac.out);clear O7 z W7 Y k7 I a0 g1 g2 S r b1 T;go_wp2_with fail;refine y.out.mono ?_;rintro e w8 ⟨S8,x,⟨rfl,h8⟩|⟨f,_⟩⟩
 case inr=>exact absurd ab.out f
 obtain⟨G8,O8,Z,G⟩:=qg.new bc.out bj.out h8;have bg:=jb (bh.out w8 S8 G8 x O8);have b6:=jb (x.ou ab.out);have bb:=jb G;have bi:=jb Z;clear h8 O8 x G Z y;go_wp2_with fail;refine bg.out.mono ?_;rintro e w9 ⟨S9,b2,⟨rfl,h9⟩|⟨f,_⟩⟩
 case inr=>exact absurd b6.out f
 obtain⟨G9,O9,b4,D⟩:=qg.new bb.out bi.out h9;have ba:=jb D;clear h9 O9 b2 D b4;go_wp2;go_ret;exact⟨rfl,ba.out⟩
end Go.Proofs.YtnipbplghijdmaaGreatDoor
namespace Go.Proofs.YtnipbplghijdmaaGreatDoor
open RowKit Maps WideShapes Go.Proofs.Tryz
variable {E:Nat->Addr} {B:Nat} {w w' w0 wz:World} {d b k kb U V N L:Nat} {S S':jc} {s:Rf.St} {F T:Nat->Prop} {Q R:Want} {m:Rf.Man} {bls:List (List Rf.Ch)} {ess:List (List Rf.Ch)} {wv:Value} {fl bd:Bool} {sf lv:Nat}
structure Ci(W:World)(B b o:Nat)(x:Q8):Prop where
 c0:W.cell? ⟨b,o,none⟩=some (.int .i64 x.kd)
 c1:W.cell? ⟨b,o+1,none⟩=some (.int .i64 x.A)
 c2:W.cell? ⟨b,o+2,none⟩=some (.int .i64 x.N)
 c3:W.cell? ⟨b,o+3,none⟩=some x.kv
 c4:W.cell? ⟨b,o+4,none⟩=some (.int .i64 x.fa)
 c5:W.cell? ⟨b,o+5,none⟩=some (.int .i64 x.ct)
 c6:W.cell? ⟨b,o+6,none⟩=some x.cv
 hb:b<B
 ok:Zr W B x
theorem Ci.keep{W f:World}{B b o:Nat}{x:Q8}{T:Nat->Prop}(h:Ci W B b o x)(k:ja W f T)(d:∀ i,i<B->¬T i):Ci f B b o x:=by
 have c:=d b h.hb;exact⟨k.cell h.c0 c,k.cell h.c1 c,k.cell h.c2 c,k.cell h.c3 c,k.cell h.c4 c,k.cell h.c5 c,k.cell h.c6 c,h.hb,h.ok.keep k d⟩
def Cg(W:World)(B:Nat)(p:Option Addr)(ac:List Q8):Prop:=∀ i (h:i<ac.length),∃ b o,p=some ⟨b,o,none⟩/\Ci W B b (o+i*7) ac[i]
theorem Zp.mono{d b:Nat}{v:Value}{ch:List Int}(h:Zp w d v ch)(q:d<=b):Zp w b v ch:=by
 obtain⟨o,c,e,m,l,j,i⟩:=h;exact⟨o,c,e,m,l,j,fun hne=>by obtain⟨g,k,n,p,f⟩:=i hne;exact⟨g,k,n,by omega,f⟩⟩
theorem Zr.mono{f d:Nat}{a:Q8}(h:Zr w f a)(b:f<=d):Zr w d a:=⟨h.kd,h.A,h.N,h.fa,h.ct,h.keys,fun hne p n c e=>ZH (h.jd3 hne p n c e) b,h.chs.mono b⟩
theorem Pow.view(h:Pow S U m bls Q):∃ V,View S V/\qu V=Go.Proofs.YtnipbplghijdmaaGreatDoor.total S.files S.names/\qu V<=U:=by
 have d:=h.total;obtain⟨T,c,f⟩:=h.cur;have b:View S (Qm S.files T):=⟨T,c.fs,List.Perm.refl _⟩;have e:=b.total;exact⟨_,b,e.symm,by unfold qu at e ⊢;omega⟩
theorem J3.view(h:J3 S s ess fl sf N L bd):∃ V,View S V/\qu V=total S.files S.names/\qu V<=20000:=by
 rcases h.xi with⟨h,_⟩|⟨_,⟨m,d,h⟩|⟨m,d,h⟩⟩
 ·exact h.pow.view
 ·obtain⟨V,c,b,f⟩:=h.view;exact⟨V,c,b,by omega⟩
 ·obtain⟨V,c,b,f⟩:=h.view;exact⟨V,c,b,by omega⟩
theorem Bk.full(h:Bk E B w0 kb d b S s wv ess fl sf bd F w)(c:J3 S s ess fl sf N L bd):Calls prog 28 #[.pointer (some ⟨kb,0,none⟩)] w fun e w'=>e = .returned (.bool (decide (5000<total S.files S.names)))/\ja w w' (fun _=>False):=by
 obtain⟨V,g,f,j⟩:=c.view;obtain⟨ρ,D,i,_⟩:=h.own.xi;have:=jg7 D i g (by omega) h.row (by omega);rw[f] at this;exact this
def wj(E:Nat->Addr)(B:Nat)(w w1:World)(kb d i:Nat)(W:World):Prop :=
 ∃ b S s wv ess fl sf bd F,Bk E B w1 kb d b S s wv ess fl sf bd F W/\J3 S s ess fl sf (2+3*i) i bd/\qe S/\ja w W (fun _=>False)
def Kh(E:Nat->Addr)(B:Nat)(w:World)(M:Nat)(e:Ending)(w':World):Prop :=
 ∃ kb d w1 i,e = .returned (.pointer (some ⟨kb,0,none⟩))/\w.heap.size<=w1.heap.size/\i<=M/\wj E B w w1 kb d i w'
theorem wj.same{c:World}{i:Nat}(h:wj E B w c kb d i wz)(k:ja wz w' (fun _=>False)):wj E B w c kb d i w':=by
 obtain⟨b,S,s,wv,ess,n,f,o,F,m,l,j,g⟩:=h;exact⟨b,S,s,wv,ess,n,f,o,F,m.same k,l,j,g.tt k⟩
theorem jdb(H:Env E B w)(hB:B<=w.heap.size){p:Option Addr}{pc M:Nat}{m:List Q8}(r:Cg w w.heap.size p m)(hn:m.length<=M)(hM:M<=131072) :
 Calls prog 34 #[.slice p m.length pc,.bool false] w (Kh E B w M):=by
 have g:=jb (jgm H hB);obtain⟨n,z⟩:∃ n,n=m.length:=⟨_,rfl⟩;rw[<-z] at hn ⊢;have HN:=jb z;have R:=jb r;clear r z;go_enter func34,ntmps34;go_wp2_with fail;refine g.out.mono ?_;rintro e U ⟨rfl,V⟩;have u:=jb (jf5 (H.same V) (ZI hB V.size));have N:=jb V;clear V;go_wp2_with fail;refine u.out.mono ?_;rintro e w2 ⟨kb,d,b,S,F,rfl,l,q,y,k2⟩;have a6:Hid (wj E B w U kb d 0 w2):=(show _ from⟨b,S,_,_,_,_,_,_,F,l,q,y,N.out.tt k2⟩);clear l q y k2 u g;go_wp2_with fail
 go_loopw [7,8,9] (fun t7 _ _ wr=>∃ i:Nat,t7 = .int .i64 i/\i<=n/\wj E B w U kb d i wr) (fun t7 _ _ _=>n-(intOf t7).toNat)
 case atStart=>exact⟨0,rfl,zG _,a6.out⟩
 case round =>
  obtain⟨i,rfl,av,X⟩:=hrel;have HP:=jb X;have L:=N.out.size;have k:Hid (∀ W,ja wr W (fun _=>False)->Kh E B w M (.returned (.pointer (some ⟨kb,0,none⟩))) W):=fun W kW=>⟨kb,d,U,i,rfl,L,by omega,X.same kW⟩;obtain⟨b,S,s,wv,ess,fl,sf,bd,F,l,q,y,I⟩:=X;rcases zV i n with a2|aw
  ·have a3:(i:Int)<(n:Int):=by omega
   have au:IntKind.i64.wrap ((i:Int)+1)=(i:Int)+1:=zE (by omega) (by omega);have A:i<m.length:=by rw[<-HN.out];exact a2
   obtain⟨xb,xo,hp,f⟩:=R.out i A;subst hp;have o:=jb (l.full q);rcases zV 5000 (total S.files S.names)with G|G
   ·have J:decide (5000<total S.files S.names)=true:=by simpa using G
    rw[J] at o;clear J G f l q y I A;go_wp2_with fail;refine o.out.mono ?_;rintro e T ⟨rfl,D⟩;have Z:=jb (k.out T D);clear D;go_wp2;go_ret;exact Z.out
   ·have J:decide (5000<total S.files S.names)=false:=by simp;omega
    rw[J] at o;have C:Hid (∀ W,ja wr W (fun _=>False)->Ci W w.heap.size xb (xo+i*7) m[i]):=fun W kW=>(f.keep I (fun _ _ t=>t)).keep kW (fun _ _ t=>t)
    have v:Hid (∀ W,ja wr W (fun _=>False)->Calls prog 76 #[.pointer (some ⟨kb,0,none⟩),.agg m[i].row] W fun e w'=>e = .returned (.bool true)/\Hid (wj E B w U kb d (i+1) w')):=fun W kW=>by
     refine(jhw (l.same kW) (q.small G) G (by omega) (by omega) y m[i] ((C.out W kW).ok.mono L)).mono ?_;rintro e w' ⟨rfl,b',S',s',a0,O,a4,a1,a5,F',h1,h2,h3,Y⟩;exact⟨rfl,⟨b',S',s',a0,O,a4,a1,a5,F',h1,h2.mono (by omega) (zJ _),h3,(I.tt kW).trans Y.1 (fun j hj t=>by have:=((l.same kW).lt t).1;omega)⟩⟩
    clear J G f l q y I;generalize m[i]=x at C v;obtain⟨kd,xA,xN,kv,keys,fa,ct,cv,ax⟩:=x;go_wp2_with fail;refine o.out.mono ?_;rintro e T ⟨rfl,D⟩;have c:=C.out T D;have c0:=c.c0;have c1:=c.c1;have c2:=c.c2;have c3:=c.c3;have c4:=c.c4;have c5:=c.c5;have c6:=c.c6;simp only at c0 c1 c2 c3 c4 c5 c6;have a7:=jb (v.out T D);clear c D A;go_wp2_with fail;refine a7.out.mono ?_;rintro e w4 ⟨rfl,Y⟩;clear c0 c1 c2 c3 c4 c5 c6;go_wp2;exact⟨⟨i+1,by simp,by omega,Y.out⟩,by simp[intOf];omega⟩
  ·have a3:¬(i:Int)<(n:Int):=by omega
   have Z:=jb (k.out wr (ja.refl _ _));clear l q y I;go_wp2;go_ret;exact Z.out
end Go.Proofs.YtnipbplghijdmaaGreatDoor
namespace Go.Proofs.YtnipbplghijdmaaGreatDoor
open RowKit Maps WideShapes Go.Proofs.Tryz
variable {E:Nat->Addr} {B:Nat} {w w' w0 wz:World} {d b k kb U V N L:Nat} {S S':jc} {s:Rf.St} {deg:Bool} {F T:Nat->Prop} {ess:List (List Rf.Ch)} {wv:Value} {fl bd:Bool} {sf lv:Nat}
def Tv(E:Nat->Addr)(B:Nat)(w0 w:World)(kb d b:Nat)(S:jc)(s:Rf.St)(wv:Value)(ess:List (List Rf.Ch))(fl:Bool)(sf:Nat)(bd:Bool)(F:Nat->Prop)(w':World):Prop :=
 ∃ S' bd' F',qo S S'/\Bk E B w0 kb d b S' s wv ess fl sf bd' F' w'/\(bd'=bd\/(bd'=true/\¬qe S))/\yu w (bkG F kb wv) w' (bkG F' kb wv)
theorem Bk.asked(h:Bk E B w0 kb d b S s wv ess fl sf bd F w)(c:qg E B w d b S' 160000 s bd F w'):∃ F',Bk E B w0 kb d b S' s wv ess fl sf bd F' w'/\yu w (bkG F kb wv) w' (bkG F' kb wv):=by
 obtain⟨F',g,f⟩:=h.km c (zJ _);exact⟨F',g.Bl,f.bk⟩
theorem Vv(b:Array Value)(w:World):(callFunc 33 b).run prog w = .ok (.enter 33 b) w:=by kernel_rfl
theorem jfb(h:Bk E B w0 kb d b S s wv ess fl sf bd F w)(hS:ib S s ess fl sf L bd)(hL:L<=131072) :
 Calls prog 39 #[.pointer (some ⟨kb,0,none⟩)] w fun e w'=>e = .returned (.bool true)/\Tv E B w0 w kb d b S s wv ess fl sf bd F w':=by
 obtain⟨pw,cw,a9⟩:=h.slice;obtain⟨nl,J⟩:∃ nl,nl=ess.length:=⟨_,rfl⟩;have b4:nl<=L:=by rw[J];exact hS.len
 obtain⟨lv,ad⟩:∃ lv,lv=nl-fl.toNat:=⟨_,rfl⟩;have b3:lv<=nl:=by omega
 have aq:s.tell=Rf.zj (ess.take lv):=by rw[ad,J];exact hS.tell
 have ap:s.tell.length<=100000:=by have:s.tell.length<=s.all.length:=ZT _ _;have:=hS.few;omega
 have A:=h.row;rw[a9,<-J] at A
 have O:Hid (∀ W,ja w W (fun _=>False)->Calls prog 42 #[.pointer (some ⟨kb,0,none⟩)] W fun e w'=>e = .returned (j6 lv)/\w'=W):=fun W kW=>by
  rw[ad];exact B5 (kW.same A id) (fun e=>by have:=(hS.flb e).2;have:=ZX.2 this;omega) (by omega)
 have R:Hid (∀ W,ja w W (fun _=>False)->Calls prog 30 #[.slice pw nl cw,j6 lv] W fun e w'=>∃ v,e = .returned v/\w'.ownsRow W.heap.size 65 2 v s.tell.length (qm s.tell)/\ja W w' (fun _=>False)):=fun W kW=>by
  have:=Hs wv ess ((h.wr.wri).same kW) hS.small lv (by omega) (by omega);rw[a9,<-J,<-aq] at this;exact this
 have c2:=zA (o:=2) A;simp at c2;have bn:w.drew.cell? ⟨kb,2,none⟩=some (.slice pw nl cw):=c2;have HH:=jb h;have HS:=jb hS;have ah:=jb ap;clear h hS aq ap A a9 J ad b4 b3 c2;go_enter func39,ntmps39
 go_upto_region 1 with fail
 go_cut [3] from 11 (fun s3 wd=>w.heap.size<=wd.heap.size/\wd.ownsRow w.heap.size 65 2 s3 s.tell.length (qm s.tell)/\ja w wd (fun _=>False))
 case first =>
  go_region_with (first|(go_at_call 42;refine(O.out _ (ja.drew _ _)).mono ?_;rintro e G ⟨rfl,rfl⟩)|(go_at_call 30;refine(R.out _ (ja.drew _ _)).mono ?_;rintro e w2 ⟨v2,rfl,ar,k2⟩))
  all_goals
   have ao:=(ja.drew w (fun _=>False)).tt k2;have Z:w2.ownsRow w.heap.size 65 2 v2 s.tell.length (qm s.tell):=ar;have az:=jb ao;have bp:=jb Z;clear ar k2 ao Z;go_wp2;go_meet
  all_goals exact⟨az.out.size,bp.out,az.out⟩
 case rest =>
  rename World=>G;obtain⟨bj,H,kv⟩:=hcut;obtain⟨pv,cv,rfl⟩:=jl H;have U:=HH.out.same kv;have c1:=zA (o:=1) U.row;simp at c1;obtain⟨n,hn⟩:∃ n,n=s.tell.length:=⟨_,rfl⟩;have a3:Hid (∀ g,(Value.slice pv s.tell.length cv).ownBlock=some g->¬bkG F kb wv g/\g<G.heap.size):=fun g hg=>⟨fun t=>by have:=(H.lt g hg).1;have:=(HH.out.lt t).2;omega,(H.lt g hg).2⟩;have ay:=jb H;have b1:=jb U;have ax:=jb (jcz U.own HS.out.ok HS.out.runs (by omega) (by have:=HS.out.few;omega) [] [] 100000 (by omega));rw[Rf.L8 s ah.out] at ax;rw[<-hn];have HN:=jb hn;have al:=jb kv;have cj:n<=100000:=by rw[hn];exact ah.out
  clear H U hn bj kv bn O R;go_wp2_with fail;refine ax.out.mono ?_;rintro e w3 ⟨S3,V,⟨v3,rfl,ab,I⟩|⟨p,rfl,I⟩⟩
  ·obtain⟨F3,u,D⟩:=b1.out.asked I
   have b6:Hid (Prs w3 v3 s.tell):=⟨_,ab⟩;have b5:Hid (Prs w3 (.slice pv s.tell.length cv) s.tell):=⟨_,D.1.row ay.out (fun g hg t=>(a3.out g hg).1 t)⟩;obtain⟨p3,c3,rfl⟩:=jl ab;have aw:=jb (P8 (.slice p3 s.tell.length c3) (.slice pv s.tell.length cv) s.tell s.tell b6.out b5.out rfl (by have:=ah.out;omega));rw[<-HN.out] at aw ⊢;have Y:=jb u;have am:=jb D;have ak:=jb V;clear u D V ab I c1;go_wp2_with fail;refine aw.out.mono ?_;rintro e w4 ⟨rfl,T⟩;have bq:Hid (∃ S4 F4,qo S S4/\Bk E B w0 kb d b S4 s wv ess fl sf bd F4 w4/\yu G (bkG F kb wv) w4 (bkG F4 kb wv)):=(show _ from⟨S3,F3,ak.out,Y.out.same T,am.out.same T⟩);clear T;go_wp2_with fail
   go_loopw [7,8,9,10] (fun t7 _ _ _ wr=>∃ i:Nat,t7 = .int .i64 i/\i<=n/\∃ S4 F4,qo S S4/\Bk E B w0 kb d b S4 s wv ess fl sf bd F4 wr/\yu G (bkG F kb wv) wr (bkG F4 kb wv)) (fun t7 _ _ _ _=>n-(intOf t7).toNat)
   case atStart=>exact⟨0,rfl,zG _,bq.out⟩
   case round =>
    obtain⟨i,rfl,ck,S4,F4,m,f,q⟩:=hrel;rcases zV i n with bl|cl
    ·have bm:(i:Int)<(n:Int):=by omega
     have ci:IntKind.i64.wrap ((i:Int)+1)=(i:Int)+1:=zE (by omega) (by omega);have ae:i<s.tell.length:=by rw[<-HN.out];exact bl
     have ai:∀ W,ja G W (bkG F kb wv)->∃ g c,Value.slice pv s.tell.length cv = .slice (some ⟨g,0,none⟩) s.tell.length c/\W.cell? ⟨g,i*2,none⟩=some (jf s.tell[i].key)/\W.cell? ⟨g,i*2+1,none⟩=some (jf s.tell[i].value):=fun W kW=>Prs.at (l:=s.tell) ⟨_,kW.row ay.out (fun g hg t=>(a3.out g hg).1 t)⟩ ae;obtain⟨g,c',e1,a0,a1⟩:=ai wr q.1;have a2:=jb ai;have au:=jd9 HS.out.ok (c:=s.tell[i]) (xV ae)
     have N:Hid (∀ W,ja wr W (fun _=>False)->Calls prog 33 #[.pointer (some ⟨b,0,none⟩),jf s.tell[i].key] W fun e w'=>∃(x:Str) (y:Bool) (z:Int),e = .returned (.tuple #[jf x,.bool y,.int .i64 z])/\Hid ((x=s.tell[i].value/\y=true/\z=0/\∃ j k,qo S j/\Bk E B w0 kb d b j s wv ess fl sf bd k w'/\yu G (bkG F kb wv) w' (bkG k kb wv))\/(x=[]/\y=false/\z=1/\¬qe S/\∃ j k,qo S j/\BkD E B w0 kb d b j s wv ess fl sf bd true k w'/\yu G (bkG F kb wv) w' (bkG k kb wv)))):=fun W kW=>by
      have:=jea (f.own.same kW) HS.out.ok (HS.out.runs.alike m.jaj) (by omega) s.tell[i].key;rw[au] at this;refine this.mono ?_;rintro e w' ⟨S6,av,⟨rfl,ac⟩|⟨p,rfl,ac⟩⟩
      ·obtain⟨F6,ag,af⟩:=(f.same kW).asked ac
       exact⟨_,_,_,rfl,.inl ⟨rfl,rfl,rfl,S6,F6,m.trans av,ag,(q.same kW).trans af⟩⟩
      ·obtain⟨F6,ag,af⟩:=(f.same kW).km ac (zJ _)
       exact⟨_,_,_,rfl,.inr ⟨rfl,rfl,rfl,fun t=>p (m.ou t),S6,F6,m.trans av,ag,(q.same kW).trans af.bk⟩⟩
     injection e1 with e1 eq2 eq3;clear eq2 eq3;subst e1;have c1:=zA (o:=1) f.row;have c5:=zA (o:=5) f.row;simp at c1 c5;have bo:wr.drew.cell? ⟨g,i*2,none⟩=some (jf s.tell[i].key):=a0;have cm:wr.drew.cell? ⟨kb,1,none⟩=some (.pointer (some ⟨b,0,none⟩)):=c1
     have b2:Hid (∀ W,ja G W (bkG F kb wv)->W.cell? ⟨g,i*2+1,none⟩=some (jf s.tell[i].value)):=fun W kW=>by
      obtain⟨g',cn,e,_,h⟩:=a2.out W kW;injection e with e _ _;cases e;exact h
     generalize s.tell[i].key=K at N a0 bo;generalize s.tell[i].value=X at N a1 b2;have cq:=jb f;have cp:=jb q;have co:=jb m;clear f q m au ai a2 a0 c1 c5 a1 ae
     go_upto_region 12 with fail
     go_cut [8,9,10] from 43 to 88 (fun s8 s9 s10 wd=>∃(x:Str) (y:Bool) (z:Int),s8=jf x/\s9 = .bool y/\s10 = .int .i64 z/\Hid ((x=X/\y=true/\z=0/\∃ j k,qo S j/\Bk E B w0 kb d b j s wv ess fl sf bd k wd/\yu G (bkG F kb wv) wd (bkG k kb wv))\/(x=[]/\y=false/\z=1/\¬qe S/\∃ j k,qo S j/\BkD E B w0 kb d b j s wv ess fl sf bd true k wd/\yu G (bkG F kb wv) wd (bkG k kb wv))))
     case first =>
      have kd:ja wr wr.drew (fun _=>False):=ja.drew _ _
      go_region_law (first
       | (refine jx rfl 33 [.tmp 53,.tmp 58] _ rfl Vv [.pointer (some ⟨b,0,none⟩),jf K] (by simp[Act.eval,Act.put]) (N.out _ kd) ?_
          rintro e w6 ⟨x6,y6,z6,rfl,h6⟩
          refine⟨_,rfl,?_⟩))
      all_goals
       go_wp2;go_meet
      all_goals exact⟨_,_,_,rfl,rfl,rfl,h6⟩
     case rest =>
      obtain⟨x6,y6,z6,rfl,rfl,rfl,h6⟩:=hcut;rcases h6.out with⟨rfl,rfl,rfl,j,k,M,r,C⟩|⟨rfl,rfl,rfl,p,j,k,M,r,C⟩
      ·have a1:=b2.out wc C.1
       have HE:Hid (∃ j k,qo S j/\Bk E B w0 kb d b j s wv ess fl sf bd k wc/\yu G (bkG F kb wv) wc (bkG k kb wv)):=(show _ from⟨j,k,M,r,C⟩);clear r C M;go_wp2;exact⟨⟨i+1,by simp,by omega,HE.out⟩,by simp[intOf];omega⟩
      ·have c5:=zA (o:=5) r.row
       have f5:=zB (o:=5) r.row;simp at c5;have b0:=jb r;have bs:=jb (yu.after al.out C);have br:=jb M;have aj:=jb p;clear r C M p;go_wp2;go_ret;have T:=Q1 wc kb 5 (.bool true);have aa:(wc.setCell ⟨kb,5,none⟩ (.bool true)).heap[kb]?=some (.cells (zn d b wv fl sf true) 51 (0,0)):=(jd b0.out.row _).trans rfl;exact⟨rfl,j,true,k,br.out,(b0.out.mark T aa).Bl,.inr ⟨rfl,aj.out⟩,Qy bs.out T⟩
    ·have bm:¬(i:Int)<(n:Int):=by omega
     have H6:Hid (Tv E B w0 w kb d b S s wv ess fl sf bd F wr):=(show _ from⟨S4,bd,F4,m,f,.inl rfl,yu.after al.out q⟩);clear f m q;go_wp2;go_ret;exact⟨rfl,H6.out⟩
  ·obtain⟨F3,u,D⟩:=b1.out.km I (zJ _)
   have c5:=zA (o:=5) u.row;have f5:=zB (o:=5) u.row;simp at c5;have Y:=jb u;have am:=jb (yu.after al.out (D.bk (kb:=kb) (wv:=wv)));have ak:=jb V;have aj:=jb p;clear u D V I c1 p;go_wp2;go_ret;have T:=Q1 w3 kb 5 (.bool true);have aa:(w3.setCell ⟨kb,5,none⟩ (.bool true)).heap[kb]?=some (.cells (zn d b wv fl sf true) 51 (0,0)):=(jd Y.out.row _).trans rfl;exact⟨rfl,S3,true,F3,ak.out,(Y.out.mark T aa).Bl,.inr ⟨rfl,aj.out⟩,Qy am.out T⟩
end Go.Proofs.YtnipbplghijdmaaGreatDoor
namespace Go.Proofs.YtnipbplghijdmaaGreatDoor
open RowKit Maps WideShapes Go.Proofs.Tryz
variable {w:World} {d k:Nat}
def b8(S:jc)(n:Str):List UInt8:=(S.at n).elim [] (xm S.files)
def ez(S:jc)(i:Nat):Str:=((S.keys.take i).map (fun n=>n++([0]++(b8 S n++[0])))).flatten
theorem Hf(S:jc){i:Nat}(h:i<S.keys.length):ez S (i+1)=ez S i++(S.keys[i]++([0]++(b8 S S.keys[i]++[0]))):=by
 unfold ez;rw[xH,xB h,xO,xP,List.flatten_append];simp
theorem qo.nms{S S':jc}(h:qo S S'):ez S' S'.keys.length=ez S S.keys.length:=by
 have c:S'.keys=S.keys:=by unfold jc.keys;rw[h.names]
 have b:b8 S'=b8 S:=by
  funext n;unfold b8 jc.at
  rw[h.names,h.files]
 unfold ez;rw[c,b]
theorem jgy{ρ:Nat->j3}{S:jc}(nm:Str)(R:Rep w ρ d S)(Z:Small S)(i:nm.length<1099511627776) :
 Calls prog 46 #[.pointer (some ⟨d,0,none⟩),jf nm] w fun e w'=>∃ p c ok,e = .returned (.tuple #[.slice p (b8 S nm).length c,.bool ok])/\Bytes w' (.slice p (b8 S nm).length c) (b8 S nm)/\ja w w' (fun _=>False):=by
 refine(Ro nm R Z i).mono ?_;rintro e w' ⟨b,⟨h,rfl⟩|⟨f,a,p,c,h,j,rfl,g⟩⟩
 ·have:b8 S nm=[]:=by unfold b8;rw[h];rfl
  rw[this];exact⟨none,0,false,rfl,Bytes.nil _,b⟩
 ·have:b8 S nm=a.bytes:=by unfold b8 xm;rw[h];simp[j]
  rw[this];exact⟨p,c,true,rfl,xr g,b⟩
theorem O0(a b:List UInt8):((⟨a.toArray⟩:ByteArray)++(⟨b.toArray⟩:ByteArray))=⟨(a++b).toArray⟩:=by
 ext1;simp[ByteArray.data_append]
theorem Tc{S:jc}(b:Fit k S)(n:Str):(b8 S n).length<=k:=by
 unfold b8
 cases S.at n with
 | none=>exact zG _
 | some f =>
  show(xm S.files f).length<=k;unfold xm
  cases h:S.files f with
  | none=>exact zG _
  | some a=>exact(b.files f a h).1
theorem Me{S:jc}(b:Fit k S):∀ i,i<=S.keys.length->(ez S i).length<=i*(2*k+2)
 | 0,_=>by simp[ez]
 | i+1,h=>by
  have h1:=Me b i (by omega)
  have d:=b.keys _ (xV (show i<S.keys.length by omega))
  have c:=Tc b (S.keys[i]'(by omega))
  rw[Hf S (by omega),Nat.succ_mul]
  simp only[zW,zH,zX]
  omega
theorem jek(a:List UInt8):((⟨a.toArray⟩:ByteArray)++(⟨#[0]⟩:ByteArray))=⟨(a++[0]).toArray⟩:=O0 a [0]
theorem Mf{E:Nat->Addr}{B:Nat}{ρ:Nat->j3}{S:jc}(D:Dk E B w ρ d S)(j:Fit k S)(hk:k<=200000) :
 Calls prog 37 #[.pointer (some ⟨d,0,none⟩)] w fun e w'=>e = .returned (jf (ez S S.keys.length))/\ja w w' (fun _=>False):=by
 have Z:=j.small (by omega);have u:=jb (Fi D.rep Z);have HD:=jb D;have HZ:=jb Z;have A:Maps.size S.names<=k:=j.names;have r:∀ n∈S.keys,n.length<=k:=j.keys
 have F:S.keys.length=Maps.size S.names:=by
  obtain⟨T,FT⟩:=j.fs;have Y:S.keys.Perm (T.map Prod.fst):=(xU _ _).trans FT.X2.keys;rw[Y.length_eq,zL,FT.X2.size]
 have L:=jb r;obtain⟨n,y⟩:∃ n,n=S.keys.length:=⟨_,rfl⟩;have a8:n<=k:=by omega
 have HN:=jb y;rw[<-y]
 have t:Hid (∀ i,i<=n->(ez S i).length<=80000400000):=fun i hi=>by
  have Y:=Me j i (by omega);have h2:i*(2*k+2)<=200000*400002:=Nat.mul_le_mul (by omega) (by omega);omega
 have N:=jb (Tc j);clear D A r F j Z y;go_enter func37,ntmps37;go_wp2_with fail;refine u.out.mono ?_;rintro e w1 ⟨V,p1,c1,rfl,o⟩;have J:=jb o;rw[<-HN.out];clear o;go_wp2_with fail
 go_loopw [3,5,6,7] (fun t3 t5 t6 t7 wr=>∃ i:Nat,t5 = .int .i64 i/\i<=n/\t3=jf (ez S i)/\ja w1 wr (fun _=>False)) (fun _ t5 _ _ _=>n-(intOf t5).toNat)
 case atStart=>exact⟨0,rfl,zG _,rfl,ja.refl _ _⟩
 case round =>
  obtain⟨i,rfl,G,rfl,v⟩:=hrel;rcases zV i n with C|a9
  ·have H:(i:Int)<(n:Int):=by omega
   have a7:IntKind.i64.wrap ((i:Int)+1)=(i:Int)+1:=zE (by omega) (by omega);have c:i<S.keys.length:=by rw[<-HN.out];exact C
   have l:=Hf S c;obtain⟨g,rfl,z⟩:=Wv (v.row J.out (fun _ _ h=>h)) c;have p:=L.out _ (xV c);have f:=jb (jgy S.keys[i] ((HD.out.same V).same v).rep HZ.out (by omega));have m:=N.out S.keys[i];have W:=t.out i G;generalize S.keys[i]=nm at z p l f m;have b:Hid (ez S (i+1)=ez S i++(nm++([0]++(b8 S nm++[0])))):=l;generalize b8 S nm=fb at f b m;generalize ez S i=X at b W ⊢;obtain⟨O,q⟩:∃ O,O=fb.length:=⟨_,rfl⟩;rw[<-q] at f;have z1:¬9223372036854775807<X.length+nm.length:=by omega
   have z2:¬9223372036854775807<X.length+nm.length+1:=by omega
   have z3:¬9223372036854775807<X.length+nm.length+1+fb.length:=by omega
   have z4:¬9223372036854775807<X.length+nm.length+1+fb.length+1:=by omega
   have y1:=O0;have y2:=jek;clear l c p q m W;go_wp2_with fail;refine f.out.mono ?_;rintro e x ⟨p3,c3,a6,rfl,s,U⟩;have R:ja x x.drew (fun _=>False):=ja.drew _ _;have aa:=(s.same R).string;have ab:x.drew.cell? ⟨g,i,none⟩=some (jf nm):=U.cell z id;have M:=jb ((v.tt U).tt R);clear s z;go_wp2_with fail
   go_region
   all_goals
    go_wp2;exact⟨⟨i+1,by simp,by omega,by rw[b.out];simp[O0,ByteArray.ext_iff,ByteArray.data_append],M.out⟩,by simp[intOf];omega⟩
  ·have H:¬(i:Int)<(n:Int):=by omega
   have I:i=n:=by omega
   subst I;go_wp2;go_ret;exact⟨rfl,V.tt v⟩
end Go.Proofs.YtnipbplghijdmaaGreatDoor
namespace Go.Proofs.YtnipbplghijdmaaGreatDoor
open RowKit Maps WideShapes Go.Proofs.Tryz
variable {E:Nat->Addr} {B:Nat} {w w' w0 wz:World} {d b k kb U V N L:Nat} {S S':jc} {s:Rf.St} {F T:Nat->Prop} {ess:List (List Rf.Ch)} {wv:Value} {fl bd:Bool} {sf lv:Nat}
theorem Tl{W:World}{v:Value}{f:List Rf.Ch}{s:Nat}{r:Array Value}(h:Chs W v f)(y:W.heap[s]?=some (.cells r 73 (0,0)))(u:∀(j:Nat) (t:Str),r[j]?≠some (jf t))(g:f≠[])(p:Addr)(n c:Nat)(e:v = .slice (some p) n c):p.block≠s:=fun hp=>by
 obtain⟨B,F,q,E,D,C,z⟩:=h
 rw[e] at q
 injection q with e2 _ _
 obtain⟨m,x⟩:=z p e2.symm
 have i:=(we (l:=f) (k:=0) (ZX.2 g)).1
 have d:=x 0 _ (by simpa using i)
 obtain⟨b,o,A⟩:=p
 simp only at m hp
 subst m
 subst hp
 rw[add_plain,zA y] at d
 exact u _ _ d
theorem Bk.box{f:Nat}{r:Array Value}(h:Bk E B w0 kb d b S s wv ess fl sf bd F w)(k:ja w w' (fun i=>i=f))(y:B<=f)(C:f<w0.heap.size)(v:w.heap[f]?=some (.cells r 73 (0,0)))(u:∀(j:Nat) (t:Str),r[j]?≠some (jf t)):Bk E B w0 kb d b S s wv ess fl sf bd F w':=by
 refine⟨k.same h.row (fun e=>by have m:kb=f:=e;have:=h.nkb.2;omega),h.own.keep k (fun i _ e=>?_),?_,h.nkb,h.new,h.base⟩
 ·have m:i=f:=e
  rw[m];exact⟨y,fun t=>by have:=h.new _ t;omega⟩
 ·obtain⟨⟨xs,o,A⟩,z⟩:=h.wr
  refine⟨⟨xs,k.row o (fun g hg e=>by have m:g=f:=e;have:=(o.lt g hg).1;omega),fun i hi=>?_⟩,z⟩;obtain⟨x,e,l,q⟩:=A i hi;exact⟨x,e,⟨l.1.keep k (fun hne p n c e hu=>Tl l.1 v u hne p n c e hu),fun g hg=>⟨(l.2 g hg).1,ZH (l.2 g hg).2 k.size⟩⟩,q⟩
theorem Cg.up{W f:World}{j g:Nat}{p:Option Addr}{d:List Q8}(h:Cg W j p d)(k:ja W f (fun _=>False))(m:j<=g):Cg f g p d:=fun i hi=>by
 obtain⟨b,o,e,l⟩:=h i hi
 have c:=l.keep k (fun _ _ t=>t)
 exact⟨b,o,e,⟨c.c0,c.c1,c.c2,c.c3,c.c4,c.c5,c.c6,by have:=c.hb;omega,c.ok.mono m⟩⟩
def je7(E:Nat->Addr)(B:Nat)(w w1:World)(kb d b:Nat)(s:Rf.St)(wv:Value)(ess:List (List Rf.Ch))(fl:Bool)(sf N L:Nat)(W:World):Prop :=
 ∃ S bd F,Bk E B w1 kb d b S s wv ess fl sf bd F W/\J3 S s ess fl sf N L bd/\qe S/\ja w W (fun _=>False)
theorem Ot(H:Env E B w)(hB:B<=w.heap.size){p:Option Addr}{pc:Nat}{ac:List Q8}(al:Cg w w.heap.size p ac)(hn:ac.length<=131071)(g:Int)(b9:I64 g)(a:Q8)(ha:Zr w w.heap.size a) :
 Calls prog 9 #[.slice p ac.length pc,.int .i64 g,.agg a.row] w fun e w'=>e = .returned (.bool true)/\ja w w' (fun _=>False):=by
 obtain⟨C,ba⟩:∃ C,C=w.heap.size:=⟨_,rfl⟩;obtain⟨W1,L⟩:∃ W1,W1=w.alloc (.cells a.row 73):=⟨_,rfl⟩;have K1:ja w W1 (fun _=>False):=by rw[L];exact ja.alloc _ _ _
 have a6:W1.heap[C]?=some (.cells a.row 73 (0,0)):=by rw[L,ba];exact je _ _
 have bi:=jb (jdb (H.same K1) (ZI hB K1.size) (pc:=pc) (al.up K1 K1.size) (M:=131071) hn (by omega));obtain⟨n,c4⟩:∃ n,n=ac.length:=⟨_,rfl⟩;rw[<-c4] at bi ⊢;have HA:Hid (Zr W1 w.heap.size a):=ha.keep K1 (fun _ _ t=>t);have cd:B<=C:=by omega
 have ff:=zC a6;have g0:w.heap.size<=W1.heap.size:=K1.size;obtain⟨x,hx⟩:∃ x,x=a:=⟨_,rfl⟩;rw[<-hx] at HA;have HX:=jb hx;have c5:∃ p n c,a.kv = .slice p n c:=by obtain⟨p,c,e,_⟩:=ha.keys;exact⟨p,_,c,e⟩
 have ca:∃ p n c,a.cv = .slice p n c:=by obtain⟨o,c,e,_⟩:=ha.chs;exact⟨o,_,c,e⟩
 have a2:=ha.kd;obtain⟨kd,A,nb,kv,keys,fa,ct,cv,I⟩:=a;simp only at c5 ca a6 a2 L;obtain⟨pk,nk,ck,rfl⟩:=c5;obtain⟨pq,nq,cq,rfl⟩:=ca
 have d1:Hid (∀(y z:Int) (j:Nat) (t:Str),(Q8.mk y A nb (.slice pk nk ck) keys fa z (.slice pq nq cq) I).row[j]?≠some (jf t)):=fun y z j t=>by
  match j with
  | 0=>simp
  | 1=>simp
  | 2=>simp
  | 3=>simp
  | 4=>simp
  | 5=>simp
  | 6=>simp
  | j+7=>simp
 have bj:Hid (∀ W,Calls prog 25 #[.int .i64 kd,.int .i64 7] W fun e w'=>e = .returned (.int .i64 (Q9 kd 7))/\w'=W):=fun W=>Xu kd a2.1 a2.2 7 (by decide) (by decide) W;have bk:Hid (∀ W,Calls prog 25 #[.int .i64 g,.int .i64 12] W fun e w'=>e = .returned (.int .i64 (Q9 g 12))/\w'=W):=fun W=>Xu g b9.1 b9.2 12 (by decide) (by decide) W;have e7:=Ya kd (n:=7) (by decide);have e8:=Ya g (n:=12) (by decide);generalize Q9 kd 7=P at bj e7;generalize Q9 g 12=PC at bk e8;have ef:=jb L;have ab:=jb ba;have ed:=jb a6;have el:=jb K1;clear al hn c4 b9 ha hx L a6 ba a2 K1;go_enter func9,ntmps9
 go_upto_region 1 with fail
 rw[<-ef.out,<-ab.out];go_wp2_with fail;refine bi.out.mono ?_;rintro e w2 ⟨kb,d,w1,Z,rfl,fx,g1,b,S,s,wv,ess,fl,sf,bd,F,hb,hS,hW,hk⟩;have T:=jb (hb.full hS);have dc:=jb hb;have d0:=jb hS;have cy:=jb hW;have d5:=jb (el.out.tt hk);have cr:=jb (hk.same ed.out id);have df:Hid (Zr w2 w.heap.size x):=HA.out.keep hk (fun _ _ t=>t);clear hb hS hW hk bi;rcases zV 5000 (total S.files S.names)with hv|hv
 ·have hd:decide (5000<total S.files S.names)=true:=by simpa using hv
  rw[hd] at T;clear hd hv;go_wp2_with fail;refine T.out.mono ?_;rintro e w3 ⟨rfl,k3⟩;have R:=jb (d5.out.tt k3);clear k3;go_wp2;go_ret;exact⟨rfl,R.out⟩
 ·have hd:decide (5000<total S.files S.names)=false:=by simp;omega
  rw[hd] at T;have HV:=jb hv;clear hd hv;go_wp2_with fail;refine T.out.mono ?_;rintro e w3 ⟨rfl,k3⟩;have bc:=dc.out.same k3;have q5:=zA (o:=5) bc.row;simp at q5;have R:=jb (d5.out.tt k3);have O:=jb (k3.same cr.out id);have de:Hid (Zr w3 w.heap.size x):=df.out.keep k3 (fun _ _ t=>t);have db:=jb bc;clear k3 bc T dc cr df
  cases bd with
  | true =>
   go_wp2;go_ret;exact⟨rfl,R.out⟩
  | false =>
   have o5:=zA (o:=5) O.out;have f5:=zB (o:=5) O.out;simp at o5;obtain⟨w4,a4⟩:∃ w4,w4=w3.setCell ⟨C,5,none⟩ (.int .i64 (-1)):=⟨_,rfl⟩;have ci:w4.heap[C]?=some (.cells #[.int .i64 kd,.int .i64 A,.int .i64 nb,.slice pk nk ck,.int .i64 fa,.int .i64 (-1),.slice pq nq cq] 73 (0,0)):=by rw[a4];exact(jd O.out _).trans rfl
   have k4:ja w3 w4 (fun i=>i=C):=by rw[a4];exact Q1 _ _ _ _
   have cx:=jb a4;have N:=jb ci;have aa:=jb k4;clear a4 ci k4
   go_upto_region 8 with fail
   rw[<-cx.out];clear q5 o5 f5;have o0:=zA (o:=0) N.out;have f0:=zB (o:=0) N.out;simp at o0;obtain⟨w5,a3⟩:∃ w5,w5=w4.setCell ⟨C,0,none⟩ (.int .i64 P):=⟨_,rfl⟩;have ch:w5.heap[C]?=some (.cells (Q8.mk P A nb (.slice pk nk ck) keys fa (-1) (.slice pq nq cq) I).row 73 (0,0)):=by rw[a3];exact(jd N.out _).trans rfl
   have k5:ja w4 w5 (fun i=>i=C):=by rw[a3];exact Q1 _ _ _ _
   have cf:=db.out.box aa.out cd (by omega) O.out (d1.out _ _);have ce:=cf.box (r:=(Q8.mk kd A nb (.slice pk nk ck) keys fa (-1) (.slice pq nq cq) I).row) k5 cd (by omega) N.out (d1.out _ _);have d4:Hid (ja w w5 (fun _=>False)):=(show _ from(R.out.trans aa.out (fun j hj e=>by have e':j=C:=e;have:=ab.out;omega)).trans k5 (fun j hj e=>by have e':j=C:=e;have:=ab.out;omega));have V:∀ j,j<w.heap.size->¬(j=C):=fun j hj e=>by have:=ab.out;omega
   have dd:Hid (Zr w5 w.heap.size x):=(de.out.keep aa.out V).keep k5 V;have cu:=jb a3;have cp:=jb ch;have ae:=jb ce;clear a3 ch k5 cf ce V;go_wp2_with fail;refine(bj.out _).mono ?_;rintro e e4 ⟨rfl,fd⟩;subst e4
   go_upto_region 9 with fail
   rw[<-cu.out];clear o0 f0 cu cx N aa db O de R;have J:=zA (o:=0) ae.out.row;simp at J;have e6:w5.drew.cell? ⟨kb,0,none⟩=some (.pointer (some ⟨d,0,none⟩)):=J
   have d6:Hid (∀ W,ja w5 W (fun _=>False)->Calls prog 35 #[.pointer (some ⟨d,0,none⟩),.int .i64 PC] W fun e w'=>e = .returned (.tuple #[])/\Hid (∃ S6 F6,Bk E B w1 kb d b S6 s wv ess fl sf false F6 w'/\Alike S S6/\S6.cut = -1/\w'.heap[C]?=some (.cells (Q8.mk P A nb (.slice pk nk ck) keys fa (-1) (.slice pq nq cq) I).row 73 (0,0))/\ja w w' (fun _=>False)/\Zr w' w.heap.size x)):=fun W kW=>by
    refine((ae.out.same kW).fail PC (by omega)).mono ?_;rintro e w6 ⟨rfl,F6,h6,g6⟩;have b7:∀ j,j<w1.heap.size->¬bkG F kb wv j:=fun j hj t=>by have:=((ae.out.same kW).lt t).1;omega
    exact⟨rfl,⟨_,F6,h6,Alike.fail _ _,cy.out.cut,g6.1.same (kW.same cp.out id) (b7 C (by omega)),(d4.out.tt kW).trans g6.1 (fun j hj t=>b7 j (by omega) t),(dd.out.keep kW (fun _ _ t=>t)).keep g6.1 (fun j hj=>b7 j (by omega))⟩⟩
   clear J
   go_cut [] from 14 (fun wd=>∃ S6 F6,Bk E B w1 kb d b S6 s wv ess fl sf false F6 wd/\Alike S S6/\S6.cut = -1/\wd.heap[C]?=some (.cells (Q8.mk P A nb (.slice pk nk ck) keys fa (-1) (.slice pq nq cq) I).row 73 (0,0))/\ja w wd (fun _=>False)/\Zr wd w.heap.size x)
   case first =>
    go_region_with (first|(go_at_call 25;refine(bk.out _).mono ?_;rintro e w7 ⟨rfl,rfl⟩)|(go_at_call 35;refine(d6.out _ (ja.drew _ _)).mono ?_;rintro e w8 ⟨rfl,h8⟩))
    all_goals
     go_wp2;go_meet
    all_goals exact h8.out
   case rest =>
    rename World=>w6;obtain⟨S6,F6,bb,bh,cb,l,c7,cg⟩:=hcut;have cm:=(d0.out.small HV.out).alike bh;have c2:total S6.files S6.names<=5000:=by rw[bh.total];exact HV.out
    have c0:Zs w6 (.slice pk nk ck) keys:=by have:=cg.keys;rw[HX.out] at this;exact this
    have d8:=jb (jel bb cm c2 (by omega) (by omega) (Q8.mk P A nb (.slice pk nk ck) keys fa (-1) (.slice pq nq cq) I) ⟨by simp only;omega,by simp only;omega⟩ c0);have o0:=zA (o:=0) l;have o1:=zA (o:=1) l;have o2:=zA (o:=2) l;have o3:=zA (o:=3) l;have o4:=zA (o:=4) l;have o5:=zA (o:=5) l;have o6:=zA (o:=6) l;simp at o0 o1 o2 o3 o4 o5 o6;have eo:=jb bb;have en:=jb cb;have ek:=jb c7;clear bb bh cb l c7 cg cm c2 c0 e6 d6 d4 dd cp ae HV d0 cy bj bk;go_wp2_with fail;refine d8.out.mono ?_;rintro e w7 ⟨rfl,S7,s7,b1,f,u,a1,bg,F7,a5,cl,co,c8⟩;have J:=zA (o:=0) a5.row;simp at J;have em:=jb (a5.fail (-1) (by omega));have da:=jb a5;have cz:=jb cl.toN;have d9:=jb (co en.out);have d3:Hid (ja w w7 (fun _=>False)):=(show _ from ek.out.trans c8.1 (fun j hj t=>by have:=(eo.out.lt t).1;omega));clear a5 cl co c8 o0 o1 o2 o3 o4 o5 o6 d8;go_wp2_with fail;refine em.out.mono ?_;rintro e w8 ⟨rfl,F8,G,g8⟩;obtain⟨S8,a7⟩:∃ S8,S8={ S7 with fail:=max (-1) (-1) }:=⟨_,rfl⟩;rw[<-a7] at G;have bf:J3 S8 s7 f u a1 (2+3*Z+2) (Z+1) bg:=by rw[a7];exact cz.out.alike (Alike.fail _ _)
    have be:qe S8:=by rw[a7];exact⟨rfl,d9.out⟩
    have b8:ja w w8 (fun _=>False):=d3.out.trans g8.1 (fun j hj t=>by have:=(da.out.lt t).1;omega);have d7:Hid (je7 E B w w1 kb d b s7 b1 f u a1 (2+3*Z+2) (Z+1) w8):=(show _ from⟨S8,bg,F8,G,bf,be,b8⟩);have q5:=zA (o:=5) G.row;have J:=zA (o:=0) G.row;simp at q5 J;have bm:=jb G;have a9:=jb bf;have cs:=jb be;have d2:=jb b8;clear a7 G bf be b8 g8 da cz d9 d3
    go_upto_if 52 with fail
    go_cut [10,11,12,13] from 14 (fun _ _ _ _ wd=>je7 E B w w1 kb d b s7 b1 f u a1 (2+3*Z+2) (Z+1) wd)
    case first =>
     cases bg with
     | false =>
      go_wp2;go_meet
      case rel=>exact d7.out
     | true =>
      obtain⟨ρ8,D8,dg,_⟩:=bm.out.own.xi;have ei:=jb (Mf D8 dg (by omega));clear D8 dg;go_wp2_with fail;refine ei.out.mono ?_;rintro e w9 ⟨rfl,k9⟩;obtain⟨X,hX⟩:∃ X,X=ez S8 S8.keys.length:=⟨_,rfl⟩;rw[<-hX];have k:=bm.out.same k9;have eh:=jb (Cr k.own k.row);have ec:=jb hX;have ad:=jb k;have bl:=jb k9;clear hX k k9 q5 J;go_wp2_with fail;refine eh.out.mono ?_;rintro e e5 ⟨rfl,b4⟩;have Y:=ad.out.same b4;have eg:=jb (jfb Y a9.out.st (by omega));have dq:=jb Y;have dn:=jb (bl.out.tt b4);clear Y b4;go_wp2_with fail;refine eg.out.mono ?_;rintro e b3 ⟨rfl,ea,dk,eq,v,D,cc,an⟩;obtain⟨fv,dh,ar,_⟩:=D.own.xi;have ap:=jb (Mf dh ar (by omega));rw[v.nms,<-ec.out] at ap;have J:=zA (o:=0) D.row;simp at J
      have dp:Hid (∀ W,ja b3 W (fun _=>False)->je7 E B w w1 kb d b s7 b1 f u a1 (2+3*Z+2) (Z+1) W):=fun W kW=>by
       refine⟨ea,dk,eq,D.same kW,?_,v.ou cs.out,((d2.out.tt dn.out).trans an.1 (fun j hj t=>by have:=(dq.out.lt t).1;omega)).tt kW⟩;rcases cc with rfl|⟨rfl,_⟩
       ·exact a9.out.alike v.jaj
       ·exact(a9.out.alike v.jaj).down
      clear dh ar D v cc an;go_wp2_with fail;refine ap.out.mono ?_;rintro e b2 ⟨rfl,bz⟩;have ep:=jb (dp.out b2 bz);clear bz J;go_wp2;go_meet
      case rel=>exact ep.out
    case rest =>
     rename World=>w9;obtain⟨S9,g2,F9,k,cn,cj,c6⟩:=hcut;have aq:=jb k.closed;have q1:=zA (o:=1) k.row;simp at q1;have ad:=jb k;have a8:=jb cn;have ee:=jb cj;have bl:=jb c6;clear k cn cj c6 q5 J d7 bm a9 cs d2;go_wp2_with fail;refine aq.out.mono ?_;rintro e e5 ⟨rfl,U,fw,ao⟩;obtain⟨pw,cw,c1⟩:=ad.out.slice;obtain⟨nl,b6⟩:∃ nl,nl=f.length:=⟨_,rfl⟩;have fg:nl<=131072:=by have:=a8.out.st.len;omega
     have b5:=U;rw[c1,<-b6] at b5;have c9:u=true->1<=nl:=fun e=>by have:=(a8.out.st.flb e).2;have:=ZX.2 this;omega
     have ej:=jb (B5 b5 c9 (by omega));have c3:Yw S9 (fun t=>t.m.next<=2+3*Z+2/\t.last<=Z+1/\∃ n,nl-u.toNat<=n/\n<=f.length/\t.tell=Rf.zj (f.take n)):=(a8.out.rest.M1 (fun t q=>q)).mono (fun t ht=>⟨ht.1.1,ht.1.2.1,nl-u.toNat,zJ _,by omega,by rw[b6];exact ht.2⟩);have dl:=jb (er (least:=nl-u.toNat) ao (by omega) ee.out c3 (by omega) U a8.out.st.small (by omega) (by omega));clear ao U b5 c9 c3 b6 c1 q1 aq;go_wp2_with fail;refine ej.out.mono ?_;rintro e b3 ⟨rfl,fe⟩;subst b3;go_wp2_with fail;refine dl.out.mono ?_;rintro e b2 ⟨rfl,g3,g4,fy,fz,fc,g5,dj,eb,e9,di,am⟩;have dm:Hid (ja w b2 (fun _=>False)):=(show _ from bl.out.trans am.1 (fun j hj t=>by have:=(ad.out.lt t).1;omega));clear dj eb e9 di am;go_wp2;go_ret;exact⟨rfl,dm.out⟩
end Go.Proofs.YtnipbplghijdmaaGreatDoor
