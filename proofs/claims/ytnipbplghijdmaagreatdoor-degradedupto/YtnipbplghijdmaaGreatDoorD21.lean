/-
  D: Files4 StoreA StoreB View Vol Steps Lay.
-/
import Derived.Test.YtnipbplghijdmaaGreatDoorD20
import Derived.Test.YtnipbplghijdmaaGreatDoorD15
set_option maxRecDepth 100000
set_option maxHeartbeats 8000000
set_option linter.unusedVariables false
set_option linter.unusedSimpArgs false
namespace Go.Proofs.YtnipbplghijdmaaGreatDoor
open RowKit Maps WideShapes Go.Proofs.Tryz
variable {w:World} {ba dv la lo mv nx ru v:Value} {ks:List Str} {B b d k:Nat} {E:Nat->Addr} {t:TypeId} {cl deg:Bool}
theorem A9{base:Nat}(x:Str)(n:ks.length<1099511627776)(c:w.ownsRow base 9 1 v ks.length (ks.map encStr)) :
 Calls prog 214 #[v,jf x] w fun e w'=>e = .returned (.bool (decide (x∈ks)))/\w'=w:=by
 rcases c.2 with⟨rfl,i⟩|⟨g,cap,m,rfl,_,o,t,r,q,p⟩
 ·have:ks=[]:=zT i
  subst this;refine(Tryz.slices_Contains_string_empty none 0 ⟨x.toArray⟩ w).mono ?_;rintro e w' ⟨rfl,rfl⟩;exact⟨by simp,rfl⟩
 ·refine(Tryz.slices_Contains_string g 0 ks.length cap (ks.map fun s=>⟨s.toArray⟩) ⟨x.toArray⟩ w (by simp) (by omega) ?_).mono ?_
  ·intro j f
   have b:j<ks.length:=by simpa using f
   have:=c.cells rfl j (encStr ks[j]) (by rw[ZN,xB b];rfl);rw[add_zero] at this;rw[xK,this];unfold encStr;simp[List.getD,xB b]
  ·rintro e w' ⟨rfl,rfl⟩
   refine⟨?_,rfl⟩;congr 2;rw[Bool.eq_iff_iff,Lib.containsS_iff,xF (by simp),decide_eq_true_eq,zS];constructor
   ·rintro⟨s,d,e⟩
    have l:s.toArray=x.toArray:=congrArg ByteArray.data e;have k:s=x:=by simpa using l
    exact k▸d
   ·intro h
    exact⟨x,h,rfl⟩
theorem jdp{ρ:Nat->j3}{S:jc}(R:Rep w ρ d S)(g:S.bad=true) :
 Calls prog 213 #[.pointer (some ⟨d,0,none⟩)] w fun e w'=>e = .returned (.tuple #[.slice none 0 0,.int .i64 1])/\x7 w ρ w' ρ/\Rep w' ρ d (S.called false):=by
 go_enter func213,ntmps213
 go_wp2_with (go_at_call 102;refine(zv false R).mono ?_;rintro e f ⟨rfl,b,c⟩)
 go_ret2;exact⟨rfl,c,b⟩
def others(ks ns:List Str):List Str:=ns.filter (fun x=>!decide (x∈ks))
theorem Rq{ns:List Str}{x:Str}(c:k<ns.length)(b:ns[k]=x):others ks (ns.take (k+1))=if x∈ks then others ks (ns.take k)else others ks (ns.take k)++[x]:=by
 unfold others;rw[xH,xB c,b,xO,yA];by_cases h:x∈ks<;>simp[h]
theorem Ld(ks ns:List Str):(others ks ns).length<=ns.length:=ZT _ _
def jc.zl(ks:List Str)(S:jc):jc×Bool:=if S.bad=true then(S.called false,false)else jc.jr (others ks S.keys) (S.called false)
theorem Zy{ρ:Nat->j3}{S:jc}(D:Dk E B w ρ d S)(Z:Small S)(v:Value)(ks:List Str)(base:Nat)(hv:w.ownsRow base 9 1 v ks.length (ks.map encStr))(hρ:∀ g,v.ownBlock=some g->ρ g = .none)(hl:ks.length<1099511627776)(T:∀ n∈S.keys,n.length<1099511627776)(hz:Maps.size S.safe+S.late.length+S.keys.length<1099511627776) :
 Calls prog 177 #[.pointer (some ⟨d,0,none⟩),v] w (Xr E B w ρ d (jc.zl ks S)):=by
 obtain⟨p,c,rfl⟩:=jl hv;obtain⟨i0,hi,a7,a6,a5⟩:=info_parts Tryz.Ax;have C:S.bad=true\/S.bad=false:=by cases S.bad<;>simp
 rcases C with C|C
 ·have f:jc.zl ks S=(S.called false,false):=by unfold jc.zl;rw[if_pos C]
  have j:=jb f;clear f;go_enter func177,ntmps177;go_wp2_with fail;refine(jdp D.rep C).mono ?_;rintro e w1 ⟨rfl,J,Y⟩;have D1:=D.step J Y;go_wp2_with fail;refine(Qc D1.z8 [110,97,109,101,115] 1 (by decide)).mono ?_;rintro e A ⟨v2,rfl,he,k2⟩;obtain⟨t1,a1,rfl⟩:=he.shape;go_wp2;go_ret;rw[j.out];exact⟨ρ,J.same k2,D1.same k2,.inr ⟨rfl,_,rfl,he⟩⟩
 ·have f:jc.zl ks S=jc.jr (others ks S.keys) (S.called false):=by unfold jc.zl;rw[if_neg (by rw[C];decide)]
  have j:=jb f;clear f;go_enter func177,ntmps177;go_wp2_with fail;refine(jdo D.rep Z C).mono ?_;rintro e w1 ⟨J,Y,pk,ck,rfl,u⟩;have D1:=D.step J Y;have a8:=J.keeps.row hv (fun g hg2 h=>h (hρ g hg2));generalize hns:S.keys=ns at u T hz j;have b5:=jb hns;clear hns;go_wp2_with fail;refine(Xy [110,97,109,101,115] w1).mono ?_;rintro e A ⟨rfl,rfl⟩;obtain⟨N1,U⟩:∃ N1,N1=A.heap.size:=⟨_,rfl⟩;have b6:=jb U;clear U;go_wp2_with fail
  go_loopw [8,23] (fun v8 i wr=>∃(k:Nat) (ss:List Str) (I:Option Addr) (L:Nat),k<=ns.length/\i = .int .i64 k/\v8 = .slice I ss.length L/\ss=others ks (ns.take k)/\wr.ownsRow A.heap.size 9 1 (.slice I ss.length L) ss.length (ss.map encStr)/\ja A wr (fun _=>False))
   (fun _ i _=>ns.length-(intOf i).toNat)
  case atStart=>exact⟨0,[],none,0,zG _,rfl,rfl,rfl,ZL _ _ _ _,ja.refl _ _⟩
  case round =>
   obtain⟨k,ss,I,L,hk,rfl,rfl,F,b,l⟩:=hrel;have a9:=Ld ks (ns.take k);rw[<-F,zK] at a9;have G:=jb F;clear F;rcases zV k ns.length with y|b3
   ·have R:=l.row u (fun _ _ h=>h)
    have N:=l.row a8 (fun _ _ h=>h)
    have X:∃ g,pk=some ⟨g,0,none⟩:=by
     rcases R.2 with⟨_,h0⟩|⟨g,cap,b4,e,_⟩
     ·omega
     ·cases e;exact⟨g,rfl⟩
    obtain⟨g,rfl⟩:=X;have q:=R.cells rfl k (encStr ns[k]) (by rw[ZN,xB y];rfl);rw[add_zero] at q;generalize hx:ns[k]=x at q;have m:=Rq (ks:=ks) y hx;rw[<-G.out] at m;have z:=jb m;clear m hx;unfold encStr at q;have b2:A.heap.size<=wr.heap.size:=l.size;by_cases hxm:x∈ks
    ·have hd:decide (x∈ks)=true:=by simp[hxm]
     have s:Hid (others ks (ns.take (k+1))=ss):=by unfold Hid;rw[z.out,if_pos hxm]
     clear hxm z;go_wp2_with fail;refine(A9 x hl N).mono ?_;rintro e W ⟨rfl,rfl⟩;rw[hd];go_wp2;exact⟨⟨k+1,ss,I,L,y,by simp,rfl,s.out.symm,b,l⟩,by simp[intOf];omega⟩
    ·have hd:decide (x∈ks)=false:=by simp[hxm]
     have s:Hid (others ks (ns.take (k+1))=ss++[x]):=by unfold Hid;rw[z.out,if_neg hxm]
     clear hxm z;have af:Hid (ss.length+1<=maxLen):=by unfold Hid maxLen;omega
     have ad:Hid ((ss.length+1)*16<=140737488355328):=by unfold Hid;omega
     have ae:∀ o,Hid (A.heap.size<=(wr.alloc o).heap.size):=by intro o;unfold Hid;simp;omega
     go_wp2_with fail;refine(A9 x hl N).mono ?_;rintro e W ⟨rfl,rfl⟩;rw[hd];have O:=Ww x;have ai:=jb O;clear O
     go_wp2_with (first
      | (at_builtin;go_must (refine jy _ rfl (.tmp 31) (.tmp 33) 40 rfl A.heap.size 9 i0 (.string ⟨#[]⟩) 1 16 underlying40 hi a7 a6 a5 rfl (ZM 0) (.slice I ss.length L) ss.length (ss.map encStr) rfl (b.alloc _) ⟨W.heap.size,0,none⟩ 1 1 [encStr x] rfl rfl (J8 (je W _) rfl) ai.out af.out ad.out (ae _).out ?_);intro p3 ag w4 H ac aj)
      | go_in)
     have ab:ja A w4 (fun _=>False):=(l.more _).grow ac (fun k e hk=>(by have:=(b.lt k e).1;omega));have t:(ss++[x]).length=ss.length+1:=by simp
     exact⟨⟨k+1,ss++[x],p3,ag,y,by simp,by rw[t],s.out.symm,by rw[t];simpa using H,ab⟩,by simp[intOf];omega⟩
   ·have ek:k=ns.length:=by omega
    have r:ss=others ks ns:=by rw[G.out,ek,xR]
    rw[<-r] at j;have V:∀ n∈ss,n.length<1099511627776:=fun n hn=>T n (by rw[r] at hn;exact(ZD.1 hn).1);have D2:=D1.same l
    have a4:∀ g,(Value.slice I ss.length L).ownBlock=some g->ρ g = .none:=fun g hg2=>by
     rcases Classical.em (ρ g = .none)with h|h
     ·exact h
     ·have h5:=Y.lt g h
      have h6:=(b.lt g hg2).1;omega
    have M:Maps.size (S.called false).safe+(S.called false).late.length+ss.length<1099511627776:=by show Maps.size S.safe+S.late.length+ss.length<_;omega
    have ah:=jb M;clear M r G;go_wp2_with fail;refine(Yk D2 (Z.called false) _ ss _ b a4 V (by omega) ah.out).mono ?_;intro e W X;have hq:=X.before (J.same l);rw[<-j.out] at hq;obtain⟨ρ3,g3,D3,⟨aa,rfl⟩|⟨aa,v1,rfl,he⟩⟩:=X
    all_goals
     go_wp2;go_ret;exact hq
def Vu(k:Nat):Int:=if k=1 then 1 else if k=0 then 7 else 6
theorem Td(S:Xg E B w)(h:Err E w v k) :
 Calls prog 84 #[v] w fun e w'=>e = .returned (.int .i64 (Vu k))/\w'=w:=by
 have s0:=S.cell 1 (by decide);have i:=S.cell 0 (by decide);obtain⟨t,a,rfl⟩:=h.shape;obtain⟨n,b⟩:∃ n,n=Vu k:=⟨_,rfl⟩;rw[<-b];unfold Vu at b;by_cases h1:k=1
 ·rw[if_pos h1] at b
  subst b;have d:decide (k=1)=true:=by simp[h1]
  clear h1;go_enter func84,ntmps84;go_wp2_with fail;refine(ry S h 1 (by decide)).mono ?_;rintro e f ⟨rfl,rfl⟩;rw[d];go_wp2;go_ret;exact⟨rfl,rfl⟩
 ·rw[if_neg h1] at b
  have d:decide (k=1)=false:=by simp[h1]
  clear h1;by_cases h2:k=0
  ·rw[if_pos h2] at b
   subst b;have c:decide (k=0)=true:=by simp[h2]
   clear h2;go_enter func84,ntmps84;go_wp2_with fail;refine(ry S h 1 (by decide)).mono ?_;rintro e f ⟨rfl,rfl⟩;rw[d];go_wp2_with fail;refine(ry S h 0 (by decide)).mono ?_;rintro e g ⟨rfl,rfl⟩;rw[c];go_wp2;go_ret;exact⟨rfl,rfl⟩
  ·rw[if_neg h2] at b
   subst b;have c:decide (k=0)=false:=by simp[h2]
   clear h2;go_enter func84,ntmps84;go_wp2_with fail;refine(ry S h 1 (by decide)).mono ?_;rintro e f ⟨rfl,rfl⟩;rw[d];go_wp2_with fail;refine(ry S h 0 (by decide)).mono ?_;rintro e g ⟨rfl,rfl⟩;rw[c];go_wp2;go_ret;exact⟨rfl,rfl⟩
abbrev qv(dv nx la lo ba ru last mv:Value)(deg cl:Bool):Array Value:=#[dv,nx,la,lo,ba,ru,last,mv,.bool deg,.bool cl]
def Xt(deg cl:Bool):Int:=if cl=true then 3 else if deg=true then 4 else 0
theorem Qb{last:Value}(c:w.heap[b]?=some (.cells (qv dv nx la lo ba ru last mv deg cl) t (0,0))) :
 Calls prog 60 #[.pointer (some ⟨b,0,none⟩)] w fun e w'=>e = .returned (.int .i64 (Xt deg cl))/\w'=w:=by
 have f:=zA (o:=8) c;have d:=zA (o:=9) c;simp at f d;clear c;cases cl<;>cases deg
 all_goals
  go_enter func60,ntmps60;go_wp2;go_ret;exact⟨rfl,rfl⟩
theorem gx{last:Value}(c:w.heap[b]?=some (.cells (qv dv nx la lo ba ru last mv deg cl) t (0,0))) :
 Calls prog 65 #[.pointer (some ⟨b,0,none⟩)] w fun e w'=>e = .returned (.int .i64 1)/\w'.heap[b]?=some (.cells (qv dv nx la lo ba ru last mv true cl) t (0,0))/\ja w w' (fun i=>i=b):=by
 have d:=zA (o:=8) c;have g:=zB (o:=8) c;simp at d;have f:=jb c;clear c;go_enter func65,ntmps65;go_wp2;go_ret;exact⟨rfl,(jd f.out _).trans rfl,ja.setCell w _ _⟩
theorem Px{last:Value}(c:w.heap[b]?=some (.cells (qv dv nx la lo ba ru last mv deg cl) t (0,0))) :
 Calls prog 79 #[.pointer (some ⟨b,0,none⟩)] w fun e w'=>e = .returned (.tuple #[])/\w'.heap[b]?=some (.cells (qv (.pointer none) nx la lo ba ru last (.slice none 0 0) deg true) t (0,0))/\ja w w' (fun i=>i=b):=by
 have g:=zA (o:=0) c;have f:=zA (o:=7) c;have d:=zA (o:=9) c;have m:=zB (o:=0) c;have l:=zB (o:=7) c;have k:=zB (o:=9) c;simp at g f d;have j:=jb c;clear c;go_enter func79,ntmps79;go_wp2;go_end0;exact⟨rfl,(jd (jd (jd j.out _) _) _).trans rfl,((ja.setCell w ⟨b,9,none⟩ _).set (p:=⟨b,0,none⟩) rfl _).set (p:=⟨b,7,none⟩) rfl _⟩
theorem jb3{last:Value}(c:w.heap[b]?=some (.cells (qv dv nx la lo ba ru last mv deg cl) t (0,0))) :
 Calls prog 40 #[.pointer (some ⟨b,0,none⟩)] w fun e w'=>ja w w' (fun i=>i=b) /\
  ((cl=true/\e = .returned (.int .i64 3)/\w'=w)\/(cl=false/\e = .returned (.int .i64 0)/\w'.heap[b]?=some (.cells (qv (.pointer none) nx la lo ba ru last (.slice none 0 0) deg true) t (0,0)))):=by
 have g:=zA (o:=9) c;simp at g;have j:=jb c;clear c
 cases cl with
 | true =>
  go_enter func40,ntmps40;go_wp2;go_ret;exact⟨ja.refl _ _,.inl ⟨by first|trivial|rfl,rfl,rfl⟩⟩
 | false =>
  go_enter func40,ntmps40;go_wp2_with fail;refine(Px j.out).mono ?_;rintro e l ⟨rfl,d,f⟩;have k:=jb d;clear d;go_wp2;go_ret;exact⟨f,.inr ⟨by first|trivial|rfl,rfl,k.out⟩⟩
def Mx(E:Nat->Addr)(B:Nat)(w:World)(ρ:Nat->j3)(d b:Nat)(t:TypeId)(row:Array Value)(S':jc)(w':World):Prop :=
 ∃ ρ',ja w w' (fun i=>ρ i≠ .none\/i=b)/\(∀ i,i<w.heap.size->ρ' i=ρ i)/\Dk E B w' ρ' d S'/\w'.heap[b]?=some (.cells row t (0,0))
end Go.Proofs.YtnipbplghijdmaaGreatDoor
namespace Go.Proofs.YtnipbplghijdmaaGreatDoor
open RowKit Maps WideShapes Go.Sort Go.Proofs.Tryz
variable {α:Type} {ds n nm sr:Str} {D:DataW Nat} {f k m:Nat} {U V:List (Str×List UInt8)} {b:List UInt8} {ok:Bool}
abbrev Tok:=Str×Nat
def jfa(p:Tok):Lit×DataW Nat:=(.string p.1,.held p.2)
structure bz(D:DataW Nat)(T:List Tok):Prop where
 es:∃ es,D = .map es/\es.Perm (T.map jfa)
 apart:T.Pairwise (fun p q=>p.1≠q.1)
theorem bz.nil:bz (.map []) []:=⟨⟨[],rfl,List.Perm.nil⟩,List.Pairwise.nil⟩
def jn{α:Type}(T:List (Str×α))(n:Str):List (Str×α):=T.filter (fun p=>decide (p.1≠n))
theorem qh{T:List (Str×α)}{p:Str×α}:p∈jn T n↔p∈T/\p.1≠n:=by simp[jn]
theorem uf{T:List (Str×α)}(h:T.Pairwise (fun p q=>p.1≠q.1))(n:Str):(jn T n).Pairwise (fun p q=>p.1≠q.1):=h.sublist ZF
theorem Co(n m:Str):(Lit.string n).sameKey (.string m)=decide (n=m):=by
 by_cases h:n=m
 ·subst h
  rw[WideAt.sameKey_self (by trivial)];simp
 ·rw[sameKey_ne (fun e=>h (by injection e))]
  simp[h]
theorem Ig(T:List Tok)(n:Str):(T.map jfa).filter (fun p=>!p.1.sameKey (.string n))=(jn T n).map jfa:=by
 induction T with
 | nil=>rfl
 | cons x r ih =>
  unfold jn at *
  rw[zP,List.filter_cons,List.filter_cons];show(if !(Lit.string x.1).sameKey (.string n)then _ else _)=_;rw[Co];by_cases h:x.1=n
  ·simp[h,ih]
  ·simp[h,ih]
theorem insert_perm(x:Lit×DataW Nat)(l:List (Lit×DataW Nat)):(DataW.insert x l).Perm (x::l):=by
 induction l with
 | nil=>exact List.Perm.refl _
 | cons y r ih =>
  unfold DataW.insert
  split
  ·exact List.Perm.refl _
  ·exact(ih.cons y).trans (List.Perm.swap x y r)
theorem bz.del{T:List Tok}(h:bz D T)(n:Str):bz (D.del (.string n)) (jn T n):=by
 obtain⟨⟨b,rfl,q⟩,a⟩:=h;exact⟨⟨_,rfl,by rw[<-Ig];exact q.filter _⟩,uf a n⟩
theorem bz.put{T:List Tok}(h:bz D T)(n:Str)(f:Nat):bz (D.put (.string n) (.held f)) ((n,f)::jn T n):=by
 obtain⟨⟨b,rfl,q⟩,a⟩:=h;refine⟨⟨_,rfl,(insert_perm _ _).trans ?_⟩,XD.2 ⟨fun p hp=>Ne.symm (qh.1 hp).2,uf a n⟩⟩;rw[zP,<-Ig];exact(q.filter _).cons _
theorem bz.at{T:List Tok}(h:bz D T)(c:(n,f)∈T)(z:DataW Nat):D.atKey (.string n) z = .held f:=by
 obtain⟨⟨b,rfl,q⟩,a⟩:=h;have g:jfa (n,f)∈b:=q.mem_iff.2 (zS.2 ⟨_,c,rfl⟩)
 have d:b.Pairwise (fun p q=>p.1≠q.1):=by
  refine(q.pairwise_iff (fun e=>Ne.symm e)).2 ?_;rw[xS];exact a.imp (fun h e=>h (by injection e))
 exact WideAt.atKey_mem (k:= .string n) z (by trivial) d g
theorem bz.none{T:List Tok}(h:bz D T)(c:∀ f,(n,f)∉T)(z:DataW Nat):D.atKey (.string n) z=z:=by
 obtain⟨⟨d,rfl,q⟩,a⟩:=h
 have:d.find? (fun p=>p.1.sameKey (.string n))=Option.none:=by
  refine List.find?_eq_none.2 (fun p hp=>?_);obtain⟨t,b,rfl⟩:=zS.1 (q.mem_iff.1 hp);show ¬(Lit.string t.1).sameKey (.string n)=true;rw[Co];intro e;have g:t.1=n:=by simpa using e
  exact c t.2 (by rw[<-g];exact b)
 simp only[DataW.atKey,this]
theorem Ad{l m:List Nat}(p:l.Perm m):l.sum=m.sum:=by
 induction p with
 | nil=>rfl
 | cons x _ ih=>simp[ih]
 | swap x y l=>simp;omega
 | trans _ _ i j=>exact i.trans j
theorem bz.total{T:List Tok}(h:bz D T)(fs:Nat->Option jz):total fs D=(T.map (fun p=>((fs p.2).elim 0 (fun a=>a.bytes.length)))).sum:=by
 obtain⟨⟨b,rfl,q⟩,a⟩:=h;unfold Go.Proofs.YtnipbplghijdmaaGreatDoor.total;rw[Ad ((show(entriesOf (.map b))=b from rfl)▸(q.map _))];rw[ZE];rfl
theorem bz.keys{T:List Tok}(h:bz D T):(strKeys D).Perm (T.map Prod.fst):=by
 obtain⟨⟨b,rfl,q⟩,a⟩:=h;unfold strKeys;refine(q.map _).trans ?_;rw[ZE];exact List.Perm.of_eq (ZR (fun p _=>rfl))
theorem bz.size{T:List Tok}(h:bz D T):Maps.size D=T.length:=by
 obtain⟨⟨b,rfl,q⟩,a⟩:=h;show b.length=_;rw[q.length_eq,zL]
structure Fs(S:jc)(T:List Tok):Prop where
 X2:bz S.names T
 files:∀ p∈T,∃ a,S.files p.2=some a
 apart:T.Pairwise (fun p q=>p.2≠q.2)
def xm(fs:Nat->Option jz)(f:Nat):List UInt8:=(fs f).elim [] jz.bytes
def Qm(fs:Nat->Option jz)(T:List Tok):List (Str×List UInt8):=T.map (fun p=>(p.1,xm fs p.2))
def View(S:jc)(V:List (Str×List UInt8)):Prop:=∃ T,Fs S T/\V.Perm (Qm S.files T)
def Xb(V:List (Str×List UInt8))(n:Str)(b:List UInt8):List (Str×List UInt8):=(n,b)::jn V n
def qu(V:List (Str×List UInt8)):Nat:=(V.map (fun p=>p.2.length)).sum
theorem Fm(p:V.Perm U):qu V=qu U:=Ad (p.map _)
theorem zx(p:Str×List UInt8)(V:List (Str×List UInt8)):qu (p::V)=p.2.length+qu V:=by simp[qu]
theorem yn(V:List (Str×List UInt8))(n:Str):qu (jn V n)<=qu V:=by
 induction V with
 | nil=>simp[jn,qu]
 | cons x r ih =>
  unfold jn at *
  rw[List.filter_cons]
  split
  ·rw[zx,zx];omega
  ·rw[zx];omega
theorem ug(h:V.Pairwise (fun p q=>p.1≠q.1))(c:(n,b)∈V):qu (jn V n)+b.length=qu V:=by
 induction V with
 | nil=>cases c
 | cons x r ih =>
  obtain⟨d,f⟩:=XD.1 h;rcases zF.1 c with rfl|c
  ·have e:jn ((n,b)::r) n=r:=by
    unfold jn;rw[XV (by simp)];exact ZQ.2 (fun p hp=>by simpa using fun e=>d p hp e.symm)
   rw[e,zx]
   show qu r+b.length=b.length+qu r
   omega
  ·have e:jn (x::r) n=x::jn r n:=by
    unfold jn;rw[XW (by simpa using d _ c)]
   rw[e,zx,zx,<-ih f c]
   omega
theorem View.perm{S:jc}(h:View S V)(p:U.Perm V):View S U:=by
 obtain⟨T,F,q⟩:=h;exact⟨T,F,p.trans q⟩
theorem Y8(fs:Nat->Option jz)(T:List Tok)(n:Str):jn (Qm fs T) n=Qm fs (jn T n):=by
 unfold Qm jn;rw[List.filter_map];rfl
theorem View.apart{S:jc}(h:View S V):V.Pairwise (fun p q=>p.1≠q.1):=by
 obtain⟨T,F,q⟩:=h;refine(q.pairwise_iff (fun e=>Ne.symm e)).2 ?_;unfold Qm;rw[xS];exact F.X2.apart
theorem Fs.at{S:jc}{T:List Tok}(h:Fs S T):S.at n=some f↔(n,f)∈T:=by
 unfold jc.at
 constructor
 ·intro e
  rcases Classical.em (∃ g,(n,g)∈T)with⟨g,b⟩|c
  ·rw[h.X2.at b] at e
   cases e;exact b
  ·rw[h.X2.none (fun f hf=>c ⟨f,hf⟩)] at e
   cases e
 ·intro e
  rw[h.X2.at e];rfl
theorem View.get{S:jc}(h:View S V)(g:(n,b)∈V):∃ f a,S.at n=some f/\S.files f=some a/\a.bytes=b:=by
 obtain⟨T,F,q⟩:=h;obtain⟨t,c,e⟩:=zS.1 (q.mem_iff.1 g);obtain⟨a,d⟩:=F.files t c;injection e with e1 e2;refine⟨t.2,a,?_,d,?_⟩
 ·rw[F.at,<-e1];exact c
 ·rw[<-e2];unfold xm;rw[d];rfl
theorem View.of{S:jc}(h:View S V){a:jz}(c:S.at n=some f)(b:S.files f=some a):(n,a.bytes)∈V:=by
 obtain⟨T,F,q⟩:=h;refine q.mem_iff.2 (zS.2 ⟨(n,f),F.at.1 c,?_⟩);unfold xm;rw[b];rfl
theorem View.total{S:jc}(h:View S V):total S.files S.names=qu V:=by
 obtain⟨T,F,q⟩:=h;rw[F.X2.total,Fm q];unfold qu Qm;rw[ZE];congr 1;refine ZR (fun p _=>?_);simp only[Function.comp,xm];cases S.files p.2<;>rfl
theorem View.keys{S:jc}(h:View S V):S.keys.Perm (V.map Prod.fst):=by
 obtain⟨T,F,q⟩:=h;unfold jc.keys;refine(xU _ _).trans (F.X2.keys.trans ?_);have:=q.map Prod.fst;unfold Qm at this;rw[ZE] at this;exact this.symm
theorem View.count{S:jc}(h:View S V):Maps.size S.names=V.length:=by
 obtain⟨T,F,q⟩:=h;rw[F.X2.size,q.length_eq];simp[Qm]
theorem View.zu{S S':jc}(h:View S V)(c:S'.names=S.names)(b:S'.files=S.files):View S' V:=by
 obtain⟨T,F,q⟩:=h;exact⟨T,⟨c▸F.X2,by rw[b];exact F.files,F.apart⟩,by rw[b];exact q⟩
theorem View.called{S:jc}(h:View S V)(ch:Bool):View (S.called ch) V:=h.zu rfl rfl
theorem View.write{S:jc}(h:View S V)(A:S.at n=some f)(a':jz):View (S.withFile f a') (Xb V n a'.bytes):=by
 obtain⟨T,F,q⟩:=h;have d:=F.at.1 A;refine⟨T,⟨F.X2,fun p c=>?_,F.apart⟩,?_⟩
 ·by_cases e:p.2=f
  ·exact⟨a',by simp[jc.withFile,e]⟩
  ·obtain⟨a,g⟩:=F.files p c
   exact⟨a,by simp[jc.withFile,e,g]⟩
 ·have z:T.Perm ((n,f)::jn T n):=by
   have H:∀ {T:List Tok},T.Pairwise (fun p q=>p.1≠q.1)->(n,f)∈T->T.Perm ((n,f)::jn T n):=by
    intro T
    induction T with
    | nil=>intro _ h;cases h
    | cons x r ih =>
     intro c d;obtain⟨i,l⟩:=XD.1 c;rcases zF.1 d with rfl|d
     ·have e:jn ((n,f)::r) n=r:=by
       unfold jn;rw[XV (by simp)];exact ZQ.2 (fun p c=>by simpa using fun e=>i p c e.symm)
      rw[e]
     ·have e:jn (x::r) n=x::jn r n:=by
       unfold jn;rw[XW (by simpa using i _ d)]
      rw[e]
      exact((ih l d).cons x).trans (List.Perm.swap _ _ _)
   exact H F.X2.apart d
  have v:(jn V n).Perm (Qm S.files (jn T n)):=by rw[<-Y8];exact q.filter _
  have e:Qm (S.withFile f a').files ((n,f)::jn T n)=(n,a'.bytes)::Qm S.files (jn T n):=by
   unfold Qm;rw[zP];congr 1
   ·simp[xm,jc.withFile]
   ·refine ZR (fun p c=>?_)
    obtain⟨o,m⟩:=qh.1 c
    have s:p.2≠f:=by
     intro e
     have H:∀ {T:List Tok},T.Pairwise (fun p q=>p.2≠q.2)->∀ a∈T,∀ b∈T,a.2=b.2->a=b:=by
      intro T
      induction T with
      | nil=>intro _ a g;cases g
      | cons x r ih =>
       intro c a g b y e;obtain⟨i,l⟩:=XD.1 c;rcases zF.1 g with u|k<;>rcases zF.1 y with t|j
       ·exact u.trans t.symm
       ·exact(i b j (u▸e)).elim
       ·exact(i a k (t▸e.symm)).elim
       ·exact ih l a k b j e
     have:=H F.apart p o (n,f) d e;exact m (by rw[this])
    simp[xm,jc.withFile,s]
  exact(v.cons _).trans ((List.Perm.of_eq e.symm).trans ((z.map _).symm))
theorem jbb(h:V.Pairwise (fun p q=>p.1≠q.1))(c:(n,b)∈V):V.Perm (Xb V n b):=by
 unfold Xb
 induction V with
 | nil=>cases c
 | cons x r ih =>
  obtain⟨d,f⟩:=XD.1 h;rcases zF.1 c with rfl|c
  ·have e:jn ((n,b)::r) n=r:=by
    unfold jn;rw[XV (by simp)];exact ZQ.2 (fun p hp=>by simpa using fun e=>d p hp e.symm)
   rw[e]
  ·have e:jn (x::r) n=x::jn r n:=by
    unfold jn;rw[XW (by simpa using d _ c)]
   rw[e]
   exact((ih f c).cons x).trans (List.Perm.swap _ _ _)
theorem View.synced{S:jc}(h:View S V){a:jz}(b:S.at n=some f)(c:S.files f=some a):View (S.withFile f a.synced) V :=
 by
 have d:(n,a.synced.bytes)∈V:=by have:=h.of b c;exact this
 exact(h.write b a.synced).perm (jbb h.apart d)
theorem View.create{S:jc}(h:View S V)(j:S.files f=Option.none)(l:n≠[]):View ((S.withFile f qd).named ⟨n,[],[],some f⟩) (Xb V n []):=by
 obtain⟨T,F,q⟩:=h
 have k:(((S.withFile f qd).named ⟨n,[],[],some f⟩)).names=S.names.put (.string n) (.held f):=by
  have g:n.isEmpty=false:=by cases n<;>simp_all
  simp[jc.named,doA,g,lh,jc.withFile]
 have b:∀ p∈jn T n,p.2≠f:=fun p c e=>by
  obtain⟨a,d⟩:=F.files p (qh.1 c).1;rw[e,j] at d;cases d
 refine⟨(n,f)::jn T n,⟨by rw[k];exact F.X2.put n f,fun p c=>?_,?_⟩,?_⟩
 ·rcases zF.1 c with rfl|c
  ·exact⟨qd,by simp[jc.named,jc.withFile]⟩
  ·obtain⟨a,d⟩:=F.files p (qh.1 c).1
   exact⟨a,by simp[jc.named,jc.withFile,b p c,d]⟩
 ·exact XD.2 ⟨fun p c=>Ne.symm (b p c),F.apart.sublist ZF⟩
 ·have i:(jn V n).Perm (Qm S.files (jn T n)):=by rw[<-Y8];exact q.filter _
  refine(i.cons (n,[])).trans (List.Perm.of_eq ?_);unfold Qm;rw[zP];congr 1
  ·simp[xm,jc.named,jc.withFile,qd]
  ·refine ZR (fun p c=>?_)
   simp[xm,jc.named,jc.withFile,b p c]
theorem View.ai{S:jc}(h:View S V)(n:Str):View (S.named ⟨[],n,[],Option.none⟩) (jn V n):=by
 obtain⟨T,F,q⟩:=h;refine⟨jn T n,⟨?_,fun p hp=>F.files p (qh.1 hp).1,F.apart.sublist ZF⟩,?_⟩
 ·show bz (doA S.names ⟨[],n,[],Option.none⟩) _
  exact F.X2.del n
 ·rw[<-Y8]
  exact q.filter _
theorem View.renamed{S:jc}(h:View S V)(B:ds≠[])(j:ds≠sr){a:jz}(z:S.at sr=some f)(g:S.files f=some a) :
 View (S.named ⟨[],sr,ds,some f⟩) (Xb (jn V sr) ds a.bytes):=by
 obtain⟨T,F,q⟩:=h;have u:=F.at.1 z;have m:ds.isEmpty=false:=by cases ds<;>simp_all
 have v:(S.named ⟨[],sr,ds,some f⟩).names=(S.names.put (.string ds) (.held f)).del (.string sr):=by
  simp[jc.named,doA,m,lh,j]
 have n:=(F.X2.put ds f).del sr
 have e:jn ((ds,f)::jn T ds) sr=(ds,f)::jn (jn T sr) ds:=by
  unfold jn;rw[XW (by simpa using j),yB,yB];congr 1;refine List.filter_congr (fun p _=>?_);rw[Bool.and_comm]
 rw[e] at n
 have d:∀ p∈jn (jn T sr) ds,p.2≠f:=fun p c e=>by
  have i:=(qh.1 (qh.1 c).1)
  have H:∀ {T:List Tok},T.Pairwise (fun p q=>p.2≠q.2)->∀ a∈T,∀ b∈T,a.2=b.2->a=b:=by
   intro T
   induction T with
   | nil=>intro _ a g;cases g
   | cons x r ih =>
    intro c a g b y e;obtain⟨i,A⟩:=XD.1 c;rcases zF.1 g with s|l<;>rcases zF.1 y with o|k
    ·exact s.trans o.symm
    ·exact(i b k (s▸e)).elim
    ·exact(i a l (o▸e.symm)).elim
    ·exact ih A a l b k e
  exact i.2 (by rw[H F.apart p i.1 (sr,f) u e])
 refine⟨(ds,f)::jn (jn T sr) ds,⟨by rw[v];exact n,fun p c=>?_,?_⟩,?_⟩
 ·rcases zF.1 c with rfl|c
  ·exact⟨a,g⟩
  ·exact F.files p (qh.1 (qh.1 c).1).1
 ·exact XD.2 ⟨fun p c=>Ne.symm (d p c),(F.apart.sublist ZF).sublist ZF⟩
 ·have t:(jn (jn V sr) ds).Perm (Qm S.files (jn (jn T sr) ds)):=by
   rw[<-Y8,<-Y8];exact(q.filter _).filter _
  refine(t.cons (ds,a.bytes)).trans (List.Perm.of_eq ?_)
  unfold Qm
  rw[zP]
  congr 1
  simp only[xm,jc.named,g]
  rfl
structure Fit(k:Nat)(S:jc):Prop where
 fs:∃ T,Fs S T
 names:Maps.size S.names<=k
 safe:Maps.size S.safe+S.late.length<=k
 tk:IsMap S.safe
 files:∀ f a,S.files f=some a->a.bytes.length<=k/\a.late.length<=k/\a.safe<=k
 total:total S.files S.names<=k
 keys:∀ n∈S.keys,n.length<=k
theorem Fit.view{S:jc}(h:Fit k S):∃ V,View S V:=by
 obtain⟨T,F⟩:=h.fs;exact⟨_,T,F,List.Perm.refl _⟩
theorem View.fs{S:jc}(h:View S V):∃ T,Fs S T:=by
 obtain⟨T,F,_⟩:=h;exact⟨T,F⟩
theorem Fit.mono{S:jc}(h:Fit k S)(b:k<=m):Fit m S :=
 ⟨h.fs,ZI h.names b,ZI h.safe b,h.tk,fun f a ha=>⟨ZI (h.files f a ha).1 b,ZI (h.files f a ha).2.1 b,ZI (h.files f a ha).2.2 b⟩,ZI h.total b,fun n hn=>ZI (h.keys n hn) b⟩
theorem Fit.small{S:jc}(h:Fit k S)(b:k<549755813888):Small S :=
 ⟨by have:=h.names;omega,by have:=h.safe;omega,by have:=h.safe;omega,fun f a ha=>by have:=h.files f a ha;omega⟩
theorem Fit.zu{S S':jc}(h:Fit k S)(b:S'.names=S.names)(c:S'.files=S.files)(d:S'.safe=S.safe)(g:S'.late=S.late):Fit k S':=by
 obtain⟨V,f⟩:=h.view;exact⟨(f.zu b c).fs,by rw[b];exact h.names,by rw[d,g];exact h.safe,by rw[d];exact h.tk,by rw[c];exact h.files,by rw[b,c];exact h.total,by unfold jc.keys;rw[b];exact h.keys⟩
theorem Fit.called{S:jc}(h:Fit k S)(ch:Bool):Fit k (S.called ch):=h.zu rfl rfl rfl rfl
theorem Fit.write{S:jc}(h:Fit k S){a:jz}(l:S.at n=some f)(i:S.files f=some a){c:Nat}{a':jz}(r:a'.bytes.length<=a.bytes.length+c)(q:a'.late.length<=a.late.length+c)(p:a'.safe<=k+c):Fit (k+c) (S.withFile f a'):=by
 obtain⟨V,d⟩:=h.view;have j:=d.write l a';have m:=d.of l i;refine⟨j.fs,ZI h.names (by omega),ZI h.safe (by omega),h.tk,fun g b hg=>?_,?_,fun n hn=>ZI (h.keys n hn) (by omega)⟩
 ·by_cases e:g=f
  ·simp[jc.withFile,e] at hg
   subst hg;have:=h.files f a i;omega
  ·simp[jc.withFile,e] at hg
   have:=h.files g b hg;omega
 ·rw[j.total]
  have s:=ug d.apart m;have o:=h.total;rw[d.total] at o;unfold Xb;rw[zx];show a'.bytes.length+qu (jn V n)<=k+c;omega
theorem Fit.synced{S:jc}(h:Fit k S){a:jz}(d:S.at n=some f)(b:S.files f=some a):Fit k (S.withFile f a.synced) :=
 h.write (c:=0) d b (by simp[jz.synced]) (by simp[jz.synced]) (by have:=h.files f a b;simp[jz.synced];omega)
theorem Fit.put{S:jc}(h:Fit k S){a:jz}(c:S.at n=some f)(b:S.files f=some a)(src:List UInt8):Fit (k+src.length) (S.withFile f (a.put src)):=by
 have d:=h.files f a b;by_cases e:src=[]
 ·refine h.write c b ?_ ?_ ?_
  all_goals (simp[jz.put,e];try omega)
 ·have:0<src.length:=ZX.2 e
  refine h.write c b ?_ ?_ ?_
  all_goals (simp[jz.put,e];try omega)
theorem o9(D:DataW Nat)(k:Lit)(d:DataW Nat):Maps.size (D.put k d)<=Maps.size D+1:=by
 cases D with
 | map es =>
  show(DataW.insert (k,d) (es.filter fun p=>!p.1.sameKey k)).length<=es.length+1;rw[(insert_perm _ _).length_eq,zH];have:=ZT (fun p:Lit×DataW Nat=>!p.1.sameKey k) es;omega
 | _=>exact Nat.le_succ _
theorem Cm(D:DataW Nat)(k:Lit):Maps.size (D.del k)<=Maps.size D:=by
 cases D with
 | map es=>exact ZT _ _
 | _=>exact zJ _
theorem Gf(D:DataW Nat)(c:y9):Maps.size (doA D c)<=Maps.size D+1:=by
 unfold doA
 split
 ·exact o9 _ _ _
 ·split
  ·split
   ·exact ZI (Cm _ _) (o9 _ _ _)
   ·exact o9 _ _ _
  ·exact ZI (Cm _ _) (Nat.le_succ _)
theorem jbq(h:IsMap D)(c:y9):IsMap (doA D c):=by
 unfold doA
 split
 ·exact h.put _ _
 ·split
  ·split
   ·exact(h.put _ _).del _
   ·exact h.put _ _
  ·exact h.del _
theorem Kx(l:List y9)(D:DataW Nat):Maps.size (l.foldl doA D)<=Maps.size D+l.length:=by
 induction l generalizing D with
 | nil=>exact zJ _
 | cons c r ih =>
  have d:=ih (doA D c);have b:=Gf D c;rw[XN,zH];omega
theorem Sm(l:List y9)(h:IsMap D):IsMap (l.foldl doA D):=by
 induction l generalizing D with
 | nil=>exact h
 | cons c r ih=>exact ih (jbq h c)
theorem Fit.named{S:jc}(h:Fit k S)(g:View S V){c:y9}(b:View (S.named c) U)(j:qu U<=qu V)(d:∀ n∈U.map Prod.fst,n.length<=k+m):Fit (k+1+m) (S.named c):=by
 have p:=Gf S.names c;have o:=h.names;have l:=h.safe;have i:=h.total;rw[g.total] at i;refine⟨b.fs,by show Maps.size (doA S.names c)<=_;omega,?_,h.tk,fun f a ha=>?_,?_,fun n hn=>?_⟩
 ·show Maps.size S.safe+(S.late++[c]).length<=_
  rw[zW,ZK];omega
 ·have:=h.files f a ha
  omega
 ·rw[b.total];omega
 ·have:=d n (b.keys.mem_iff.1 hn)
  omega
theorem Fit.key{S:jc}(h:Fit k S)(b:View S V):∀ n∈V.map Prod.fst,n.length<=k:=fun n hn=>h.keys n (b.keys.mem_iff.2 hn)
theorem Pj{m:Str}(h:m∈(Xb V n b).map Prod.fst):m=n\/m∈V.map Prod.fst:=by
 unfold Xb at h;rw[zP] at h;rcases zF.1 h with h|h
 ·exact .inl h
 ·obtain⟨p,c,e⟩:=zS.1 h
  exact .inr (zS.2 ⟨p,(qh.1 c).1,e⟩)
theorem Fit.create{S:jc}(h:Fit k S)(j:S.files f=none)(r:n≠[]):Fit (k+1+n.length) ((S.withFile f qd).named ⟨n,[],[],some f⟩):=by
 obtain⟨V,l⟩:=h.view;have s:=l.create j r;obtain⟨T,F,q⟩:=l;have c:∀ p∈T,p.2≠f:=fun p hp e=>by obtain⟨a,d⟩:=F.files p hp;rw[e,j] at d;cases d
 have b:View (S.withFile f qd) V:=by
  refine⟨T,⟨F.X2,fun p hp=>?_,F.apart⟩,q.trans (List.Perm.of_eq ?_)⟩
  ·obtain⟨a,d⟩:=F.files p hp
   exact⟨a,by simp[jc.withFile,c p hp,d]⟩
  ·refine ZR (fun p hp=>?_)
   simp[xm,jc.withFile,c p hp]
 have o:Fit k (S.withFile f qd):=by
  refine⟨b.fs,h.names,h.safe,h.tk,fun g a hg=>?_,?_,h.keys⟩
  ·by_cases e:g=f
   ·simp[jc.withFile,e] at hg
    subst hg;simp[qd]
   ·simp[jc.withFile,e] at hg
    exact h.files g a hg
  ·rw[b.total]
   have:=h.total;rwa [View.total ⟨T,F,q⟩] at this
 refine o.named b s ?_ (fun m i=>?_)
 ·unfold Xb
  rw[zx];have:=yn V n;show 0+qu (jn V n)<=qu V;omega
 ·rcases Pj i with rfl|i
  ·omega
  ·have:=o.key b m i
   omega
theorem Fit.ai{S:jc}(h:Fit k S)(n:Str):Fit (k+1) (S.named ⟨[],n,[],none⟩):=by
 obtain⟨V,b⟩:=h.view;refine h.named (m:=0) b (b.ai n) (yn V n) (fun m hm=>?_);obtain⟨p,c,e⟩:=zS.1 hm;exact h.key b m (zS.2 ⟨p,(qh.1 c).1,e⟩)
theorem Fit.renamed{S:jc}(h:Fit k S)(g:ds≠[])(d:ds≠sr){a:jz}(j:S.at sr=some f)(i:S.files f=some a):Fit (k+1+ds.length) (S.named ⟨[],sr,ds,some f⟩):=by
 obtain⟨V,b⟩:=h.view;have n:=b.renamed g d j i;refine h.named (m:=ds.length) b n ?_ (fun m c=>?_)
 ·have q:=ug b.apart (b.of j i)
  have o:=yn (jn V sr) ds;unfold Xb;rw[zx];show a.bytes.length+_<=_;omega
 ·rcases Pj c with rfl|c
  ·omega
  ·obtain⟨p,l,e⟩:=zS.1 c
   have:=h.key b m (zS.2 ⟨p,(qh.1 l).1,e⟩);omega
theorem Fit.Ye{S:jc}(h:Fit k S):Fit k S.Ye.1:=by
 unfold jc.Ye
 split
 ·exact h.called true
 ·have d:=Kx S.late S.safe
  have c:=h.safe;obtain⟨V,b⟩:=h.view;exact⟨(b.zu (S':={ S.called true with safe:=S.late.foldl doA S.safe,late:=[] }) rfl rfl).fs,h.names,by show Maps.size (S.late.foldl doA S.safe)+0<=k;omega,Sm _ h.tk,h.files,h.total,h.keys⟩
theorem Fit.qn{S:jc}(h:Fit k S)(n:Str):Fit k (S.qn n).1:=by
 unfold jc.qn
 split
 ·exact h.called true
 ·split
  ·exact h.called true
  ·rename_i f hA
   split
   ·exact h.called true
   ·rename_i a ha
    exact(h.called true).synced (n:=n) hA ha
theorem Fit.xx{S:jc}(h:Fit k S)(ns:List Str):Fit k (jc.xx ns S).1:=by
 induction ns generalizing S with
 | nil=>exact h.Ye
 | cons n r ih =>
  unfold jc.xx
  split
  ·exact ih (h.qn n)
  ·exact h.qn n
theorem Fit.xj{S:jc}(h:Fit k S)(n:Str):Fit (k+1) (S.xj n).1:=by
 unfold jc.xj
 split
 ·exact(h.called true).mono (by omega)
 ·split
  ·exact(h.called true).mono (by omega)
  ·exact(h.called true).ai n
theorem Fit.qt{S:jc}(h:Fit k S)(b:ds≠sr):Fit (k+1+ds.length) (S.qt sr ds).1:=by
 unfold jc.qt
 split
 ·exact(h.called true).mono (by omega)
 ·split
  ·exact(h.called true).mono (by omega)
  ·rename_i f hA
   split
   ·exact(h.called true).mono (by omega)
   ·rename_i hds
    obtain⟨T,F⟩:=h.fs;obtain⟨a,c⟩:=F.files _ (F.at.1 hA);exact(h.called true).renamed hds b (sr:=sr) hA c
theorem Fit.yf{S:jc}(h:Fit k S)(ns:List Str):Fit (k+ns.length) (jc.yf ns S).1:=by
 induction ns generalizing S k with
 | nil=>exact h
 | cons n r ih =>
  unfold jc.yf
  split
  ·exact(ih (h.xj n)).mono (by rw[zH];omega)
  ·exact(h.xj n).mono (by rw[zH];omega)
theorem Fit.xu{F:jc×Bool}(h:Fit k F.1):Fit k (Go.Proofs.YtnipbplghijdmaaGreatDoor.xu F).1:=by
 unfold Go.Proofs.YtnipbplghijdmaaGreatDoor.xu
 split
 ·exact h.Ye
 ·exact h
theorem Fit.jr{S:jc}(h:Fit k S)(ns:List Str):Fit (k+ns.length) (jc.jr ns S).1:=by
 unfold jc.jr
 split
 ·exact h.mono (by omega)
 ·exact(h.yf ns).xu
theorem Fit.zl{S:jc}(h:Fit k S)(ks:List Str):Fit (k+S.keys.length) (jc.zl ks S).1:=by
 unfold jc.zl
 split
 ·exact(h.called false).mono (by omega)
 ·refine((h.called false).jr _).mono ?_
  have:(others ks S.keys).length<=S.keys.length:=ZT _ _;omega
theorem Fit.Cy{S:jc}(h:Fit k S):S.keys.length<=k:=by
 obtain⟨V,b⟩:=h.view;rw[b.keys.length_eq,zL,<-b.count];exact h.names
theorem Fit.new:Fit 0 jc.new:=by
 refine⟨⟨[],⟨bz.nil,fun p hp=>(by cases hp),List.Pairwise.nil⟩⟩,zJ _,zJ _,⟨[],rfl⟩,fun f a h=>(by cases h),zJ _,fun n hn=>?_⟩;have:jc.new.keys=[]:=by simp[jc.keys,jc.new,strKeys]
 rw[this] at hn;cases hn
abbrev DStep:=jc->jc->Bool->Prop
def Fn(f:jc->jc×Bool):DStep:=fun S S' ok=>f S=(S',ok)
def nj:List DStep->DStep
 | [],S,S',ok=>S'=S/\ok=true
 | R::r,S,S',ok=>(R S S' false/\ok=false)\/∃ S1,R S S1 true/\nj r S1 S' ok
def Kp(nm:Str)(b:List UInt8):DStep:=fun S S' ok=>∃ f a,S.at nm=some f/\S.files f=some a /\
 (((S.bad=true\/20000<b.length+total S.files S.names)/\S'=(S.called true).withFile f (a.put (b.take (b.length/2)))/\ok=false) \/
  (S.bad=false/\b.length+total S.files S.names<=20000/\S'=(S.called true).withFile f (a.put b)/\ok=true))
def Lt(nm:Str):DStep:=fun S S' ok =>
 (S.bad=true/\S'=S.called true/\ok=false)\/(S.bad=false/\ok=true/\∃ f,S.files f=none/\S'=((S.called true).withFile f qd).named ⟨nm,[],[],some f⟩)
def Xp(nm:Str)(b:List UInt8):DStep:=if b=[] then Lt nm else nj [Lt nm,Kp nm b]
def ji:Str:=[109,97,110,105,102,101,115,116]
def jq:Str:=[109,97,110,105,102,101,115,116,46,116,109,112]
def yt(m:Rf.Man):DStep:=nj [Fn (jc.xx (jt m)),Xp jq m.bytes,Fn (fun S=>S.qn jq),Fn (fun S=>xu (S.qt jq ji))]
theorem Fit.jhf{S S':jc}(h:Fit k S)(r:Kp nm b S S' ok):Fit (k+b.length) S':=by
 obtain⟨f,a,d,c,⟨_,rfl,_⟩|⟨_,_,rfl,_⟩⟩:=r
 ·exact((h.called true).put (n:=nm) d c _).mono (by rw[zK];omega)
 ·exact(h.called true).put (n:=nm) d c _
theorem Fit.jf2{S S':jc}(h:Fit k S)(b:nm≠[])(r:Lt nm S S' ok):Fit (k+1+nm.length) S':=by
 obtain⟨_,rfl,_⟩|⟨_,_,f,c,rfl⟩:=r
 ·exact(h.called true).mono (by omega)
 ·exact(h.called true).create c b
theorem Fit.Du{S S':jc}(h:Fit k S)(c:nm≠[])(r:Xp nm b S S' ok):Fit (k+1+nm.length+b.length) S':=by
 unfold Xp at r
 split at r
 ·exact(h.jf2 c r).mono (by omega)
 ·obtain⟨r,_⟩|⟨l,i,g⟩:=r
  ·exact(h.jf2 c r).mono (by omega)
  ·have d:=h.jf2 c i
   obtain⟨r,_⟩|⟨j,f,rfl,_⟩:=g
   ·exact d.jhf r
   ·exact d.jhf f
theorem Fit.yt{S S':jc}{m:Rf.Man}(h:Fit k S)(r:yt m S S' ok):Fit (k+22+m.bytes.length) S':=by
 obtain⟨r,_⟩|⟨u,s,q⟩:=r
 ·have b:=h.xx (jt m)
  rw[r] at b;exact b.mono (by omega)
 ·have b:=h.xx (jt m)
  rw[s] at b;obtain⟨r,_⟩|⟨i,p,o⟩:=q
  ·exact(Fit.Du b (by decide) r).mono (by simp[jq];try omega)
  ·have g:=Fit.Du b (by decide) p
   obtain⟨r,_⟩|⟨f,n,l⟩:=o
   ·have c:=g.qn jq
    have e:i.qn jq=(S',false):=r;rw[e] at c;exact c.mono (by simp[jq];try omega)
   ·have c:=g.qn jq
    have e:i.qn jq=(f,true):=n;rw[e] at c;have d:=(Fit.qt (ds:=ji) (sr:=jq) c (by decide)).xu;obtain⟨r,_⟩|⟨t,j,rfl,_⟩:=l
    ·have e:Go.Proofs.YtnipbplghijdmaaGreatDoor.xu (f.qt jq ji)=(S',false):=r
     rw[e] at d;exact d.mono (by simp[jq,ji];omega)
    ·have e:Go.Proofs.YtnipbplghijdmaaGreatDoor.xu (f.qt jq ji)=(S',true):=j
     rw[e] at d;exact d.mono (by simp[jq,ji];omega)
structure qe(S:jc):Prop where
 fail:S.fail = -1
 cut:S.cut = -1
theorem qe.bad{S:jc}(h:qe S):S.bad=false:=by simp[jc.bad,h.fail,h.cut]
theorem qe.called{S:jc}(h:qe S)(ch:Bool):qe (S.called ch):=⟨by simp[jc.called,h.fail],by simp[jc.called,h.cut]⟩
theorem qe.zu{S S':jc}(h:qe S)(c:S'.fail=S.fail)(b:S'.cut=S.cut):qe S':=⟨c.trans h.fail,b.trans h.cut⟩
theorem qe.new:qe jc.new:=⟨rfl,rfl⟩
theorem qe.sync{S:jc}(h:qe S)(d:View S V)(i:(n,b)∈V):(S.qn n).2=true/\qe (S.qn n).1/\View (S.qn n).1 V:=by
 obtain⟨f,a,g,c,_⟩:=d.get i
 have e:S.qn n=((S.called true).withFile f a.synced,true):=by
  unfold jc.qn;rw[if_neg (by rw[h.bad];decide),g];simp only[c]
 rw[e];exact⟨rfl,(h.called true).zu rfl rfl,(d.called true).synced (n:=n) g c⟩
theorem qe.dir{S:jc}(h:qe S)(b:View S V):S.Ye.2=true/\qe S.Ye.1/\View S.Ye.1 V/\S.Ye.1.late=[]:=by
 unfold jc.Ye;rw[if_neg (by rw[h.bad];decide)];exact⟨rfl,(h.called true).zu rfl rfl,b.zu rfl rfl,rfl⟩
theorem qe.sure{S:jc}(h:qe S)(d:View S V)(ns:List Str)(c:∀ n∈ns,∃ b,(n,b)∈V):(jc.xx ns S).2=true/\qe (jc.xx ns S).1/\View (jc.xx ns S).1 V/\(jc.xx ns S).1.late=[]:=by
 induction ns generalizing S with
 | nil=>exact h.dir d
 | cons n r ih =>
  obtain⟨b,f⟩:=c n zR;obtain⟨j,i,g⟩:=h.sync d f;unfold jc.xx;rw[if_pos j];exact ih i g (fun x hx=>c x (zQ _ hx))
theorem qe.app{S S':jc}{c:List UInt8}(h:qe S)(j:View S V)(m:(nm,c)∈V)(k:b.length+qu V<=20000)(r:Kp nm b S S' ok):ok=true/\qe S'/\View S' (Xb V nm (c++b)):=by
 obtain⟨f,a,l,o,⟨d,_,_⟩|⟨_,_,rfl,rfl⟩⟩:=r
 ·rcases d with d|d
  ·rw[h.bad] at d;cases d
  ·rw[j.total] at d;omega
 ·obtain⟨q,a',i,g,e⟩:=j.get m
  rw[l] at i;cases i;rw[o] at g;cases g;refine⟨rfl,(h.called true).zu rfl rfl,?_⟩;have:=(j.called true).write (n:=nm) l (a.put b)
  have p:(a.put b).bytes=c++b:=by
   unfold jz.put
   split
   ·rename_i k;rw[e,k,ZC]
   ·rw[<-e]
  rwa [p] at this
theorem qe.cre{S S':jc}(h:qe S)(c:nm≠[])(g:View S V)(r:Lt nm S S' ok):ok=true/\qe S'/\View S' (Xb V nm []):=by
 obtain⟨b,_,_⟩|⟨_,rfl,f,d,rfl⟩:=r
 ·rw[h.bad] at b;cases b
 ·exact⟨rfl,(h.called true).zu rfl rfl,(g.called true).create d c⟩
theorem wu(V:List (Str×α))(n:Str):jn (jn V n) n=jn V n:=by
 unfold jn;rw[yB];refine List.filter_congr (fun p _=>?_);rw[Bool.and_self]
theorem gd(V:List (Str×α))(n:Str)(b:α):jn ((n,b)::V) n=jn V n:=by
 unfold jn;rw[XV (by simp)]
theorem jax(V:List (Str×List UInt8))(n:Str)(b c:List UInt8):Xb (Xb V n b) n c=Xb V n c:=by
 unfold Xb;rw[gd,wu]
theorem qe.lay{S S':jc}(h:qe S)(f:nm≠[])(g:View S V)(o:b.length+qu (jn V nm)<=20000)(r:Xp nm b S S' ok):ok=true/\qe S'/\View S' (Xb V nm b):=by
 unfold Xp at r
 split at r
 ·rename_i e
  rw[e];exact h.cre f g r
 ·obtain⟨r,_⟩|⟨q,m,l⟩:=r
  ·obtain⟨e,_⟩:=h.cre f g r
   cases e
  ·obtain⟨_,j,d⟩:=h.cre f g m
   have i:b.length+qu (Xb V nm [])<=20000:=by
    unfold Xb;rw[zx];show b.length+(0+qu (jn V nm))<=20000;omega
   obtain⟨r,_⟩|⟨p,k,rfl,rfl⟩:=l
   ·obtain⟨e,_⟩:=j.app d zR i r
    cases e
   ·obtain⟨_,n,c⟩:=j.app d zR i k
    refine⟨rfl,n,?_⟩;rw[jax,xL] at c;exact c
theorem qe.rename{S:jc}(h:qe S)(c:ds≠[])(g:ds≠sr)(i:View S V)(k:(sr,b)∈V) :
 (xu (S.qt sr ds)).2=true/\qe (xu (S.qt sr ds)).1/\View (xu (S.qt sr ds)).1 (Xb (jn V sr) ds b)/\(xu (S.qt sr ds)).1.late=[]:=by
 obtain⟨f,a,j,l,e⟩:=i.get k
 have n:S.qt sr ds=((S.called true).named ⟨[],sr,ds,some f⟩,true):=by
  unfold jc.qt;rw[if_neg (by rw[h.bad];decide),j];simp only[c,if_false]
 have d:=(i.called true).renamed c g (sr:=sr) j l;rw[e] at d;unfold xu;rw[n];have m:qe ((S.called true).named ⟨[],sr,ds,some f⟩):=(h.called true).zu rfl rfl;exact m.dir d
theorem qe.remove{S:jc}(h:qe S)(c:View S V)(d:(n,b)∈V):(S.xj n).2=true/\qe (S.xj n).1/\View (S.xj n).1 (jn V n):=by
 obtain⟨f,a,g,j,e⟩:=c.get d
 have i:S.xj n=((S.called true).named ⟨[],n,[],none⟩,true):=by
  unfold jc.xj;rw[if_neg (by rw[h.bad];decide),g]
 rw[i];exact⟨rfl,(h.called true).zu rfl rfl,(c.called true).ai n⟩
theorem qe.Yi{S:jc}(h:qe S)(f:View S V)(ns:List Str)(g:ns.Nodup)(d:∀ n∈ns,∃ b,(n,b)∈V) :
 (jc.yf ns S).2=true/\qe (jc.yf ns S).1/\View (jc.yf ns S).1 (V.filter (fun p=>decide (p.1∉ns))):=by
 induction ns generalizing S V with
 | nil =>
  refine⟨rfl,h,?_⟩;rw[ZQ.2 (fun p _=>by simp)];exact f
 | cons n r ih =>
  obtain⟨b,j⟩:=d n zR;obtain⟨m,l,k⟩:=h.remove f j;obtain⟨v,u⟩:=XE.1 g;unfold jc.yf;rw[if_pos m]
  obtain⟨s,q,o⟩:=ih l k u (fun x hx=>by
   obtain⟨c,i⟩:=d x (zQ _ hx)
   exact⟨c,qh.2 ⟨i,fun e=>v (by have t:x=n:=e;rw[<-t];exact hx)⟩⟩)
  refine⟨s,q,?_⟩
  have e:(jn V n).filter (fun p=>decide (p.1∉r))=V.filter (fun p=>decide (p.1∉n::r)):=by
   unfold jn;rw[yB];refine List.filter_congr (fun p _=>?_);rw[Bool.eq_iff_iff];simp only[ZU,decide_eq_true_eq,zF,not_or];exact And.comm
  rwa [e] at o
theorem qe.removeAll{S:jc}(h:qe S)(c:View S V)(ns:List Str)(f:ns.Nodup)(d:∀ n∈ns,∃ b,(n,b)∈V) :
 (jc.jr ns S).2=true/\qe (jc.jr ns S).1/\View (jc.jr ns S).1 (V.filter (fun p=>decide (p.1∉ns)))/\(S.late=[]->(jc.jr ns S).1.late=[]):=by
 unfold jc.jr
 split
 ·rename_i e
  refine⟨rfl,h,?_,fun e=>e⟩;rw[e,ZQ.2 (fun p _=>by simp)];exact c
 ·obtain⟨j,i,g⟩:=h.Yi c ns f d
  unfold xu;rw[if_pos j];obtain⟨o,m,l,k⟩:=i.dir g;exact⟨o,m,l,fun _=>k⟩
theorem View.jbn{S:jc}(h:View S V):S.keys.Nodup:=by
 refine(h.keys.nodup_iff).2 ?_;unfold List.Nodup;rw[xS];exact h.apart
theorem gp:ji≠[]/\jq≠[]/\ji≠jq:=by decide
theorem qe.install{S S':jc}{m:Rf.Man}(h:qe S)(E:View S V)(D:∀ n∈jt m,∃ b,(n,b)∈V)(q:m.bytes.length+qu (jn V jq)<=20000)(r:yt m S S' ok) :
 ok=true/\qe S'/\View S' (Xb (jn V jq) ji m.bytes)/\S'.late=[]:=by
 obtain⟨s,f,d,_⟩:=h.sure E _ D;obtain⟨r,_⟩|⟨G,C,B⟩:=r
 ·have e:jc.xx (jt m) S=(S',false):=r
  rw[e] at s;cases s
 ·have e:jc.xx (jt m) S=(G,true):=C
  rw[e] at f d;obtain⟨r,_⟩|⟨t,A,z⟩:=B
  ·obtain⟨e,_⟩:=f.lay gp.2.1 d q r
   cases e
  ·obtain⟨_,F,u⟩:=f.lay gp.2.1 d q A
   obtain⟨p,o,l⟩:=F.sync u (n:=jq) zR;obtain⟨r,_⟩|⟨g,y,x⟩:=z
   ·have e:t.qn jq=(S',false):=r
    rw[e] at p;cases p
   ·have e:t.qn jq=(g,true):=y
    rw[e] at o l;obtain⟨k,j,c,i⟩:=o.rename (sr:=jq) (ds:=ji) gp.1 gp.2.2 l zR;obtain⟨r,_⟩|⟨H,v,rfl,rfl⟩:=x
    ·have e:xu (g.qt jq ji)=(S',false):=r
     rw[e] at k;cases k
    ·have e:xu (g.qt jq ji)=(S',true):=v
     rw[e] at j c i;refine⟨rfl,j,?_,i⟩;unfold Xb at c ⊢;rw[gd,wu] at c;exact c
end Go.Proofs.YtnipbplghijdmaaGreatDoor
namespace Go.Proofs.YtnipbplghijdmaaGreatDoor
open RowKit Maps WideShapes Go.Proofs.Tryz
variable {E:Nat->Addr} {B d:Nat} {w:World}
def cd(E:Nat->Addr)(B:Nat)(w:World)(ρ:Nat->j3)(d:Nat)(S:jc)(R:DStep)(e:Ending)(w':World):Prop:=∃ S' ok,R S S' ok/\Xr E B w ρ d (S',ok) e w'
theorem cd.before{c:World}{ρ b:Nat->j3}{S:jc}{R:DStep}{e:Ending}{w':World}(g:x7 w ρ c b)(h:cd E B c b d S R e w'):cd E B w ρ d S R e w':=by
 obtain⟨S',f,r,h⟩:=h;exact⟨S',f,r,h.before g⟩
def Off(ρ:Nat->j3)(v:Value):Prop:=∀ p n c,v = .slice (some p) n c->ρ p.block = .none
theorem tr{ρ:Nat->j3}{k:Nat}{S:jc}(D:Dk E B w ρ d S)(F:Fit k S)(nm:Str)(Y:nm≠[])(v:Value)(b:List UInt8)(X:Bytes w v b)(q:Off ρ v)(hk:k+1+nm.length+b.length<549755813888) :
 Calls prog 114 #[.pointer (some ⟨d,0,none⟩),jf nm,v] w (cd E B w ρ d S (Xp nm b)):=by
 have Z:Small S:=F.small (by omega);have C:nm.length<1099511627776:=by omega
 obtain⟨p,c,rfl,b1,ab,aa,a9⟩:=id X;have g:∀ S' ok,Xp nm b S S' ok=(if b=[] then Lt nm else nj [Lt nm,Kp nm b]) S S' ok:=fun _ _=>rfl;obtain⟨R0,H⟩:∃ R0,R0=Xp nm b:=⟨_,rfl⟩;rw[<-H] at g ⊢;have R:=jb g;have HV:=jb X;clear g H aa a9 X;go_enter func114,ntmps114;go_wp2_with fail;refine(V0 nm D.rep Z C).mono ?_;rintro e w1 ⟨L,o,⟨y,rfl,O⟩|⟨y,hA,rfl,O⟩|⟨y,hA,rfl,f,hf,O⟩⟩
 ·have r:=D.step o O
  go_wp2_with fail;refine(Qc r.z8 nm 1 (by decide)).mono ?_;rintro e W ⟨v2,rfl,M,k2⟩;obtain⟨t,a,rfl⟩:=M.shape;go_wp2;go_ret;refine⟨S.called true,false,?_,L,o.same k2,r.same k2,.inr ⟨rfl,_,rfl,M⟩⟩;rw[R.out]
  split
  ·exact .inl ⟨y,rfl,rfl⟩
  ·exact .inl ⟨.inl ⟨y,rfl,rfl⟩,rfl⟩
 ·exact absurd hA Y
 ·have r:=D.step o O
  have i:Lt nm S (((S.called true).withFile f qd).named ⟨nm,[],[],some f⟩) true:= .inr ⟨y,rfl,f,hf,rfl⟩;have F1:=F.jf2 Y i
  have G:(((S.called true).withFile f qd).named ⟨nm,[],[],some f⟩).at nm=some f:=by
   obtain⟨V,hV⟩:=F.view;have hU:=(hV.called true).create hf Y;obtain⟨f',a',h1,h2,h3⟩:=hU.get (n:=nm) (b:=[]) zR;have a8:nm.isEmpty=false:=by cases nm<;>simp_all
   unfold jc.at
   simp only[jc.named,doA,a8,if_true,lh];rw[atKey_put_same (k:= .string nm) ?_ (by trivial)]
   ·rfl
   ·obtain⟨T,⟨⟨es,e,_⟩,_⟩,_⟩:=F.fs
    exact⟨es,e⟩
  have l:(((S.called true).withFile f qd).named ⟨nm,[],[],some f⟩).files f=some qd:=by simp[jc.named,jc.withFile]
  generalize hS1:((S.called true).withFile f qd).named ⟨nm,[],[],some f⟩=S1 at *
  have HA:=jb G;have HF:=jb l;have HC:=jb i;clear hS1 G l i;go_wp2_with fail;refine(Xy nm w1).mono ?_;rintro e W ⟨rfl,rfl⟩;by_cases hb0:b=[]
  ·subst hb0
   go_wp2;go_ret;refine⟨S1,true,?_,L,o,r,.inl ⟨rfl,rfl⟩⟩;rw[R.out];exact HC.out
  ·have I:0<b.length:=ZX.2 hb0
   have an:((b.length:Int)==0)=false:=by simp;omega
   obtain⟨m,rfl⟩:∃ m,p=some m:=by
    cases p with
    | some m=>exact⟨m,rfl⟩
    | none =>
     obtain⟨p',c',e,h1,h2,h3,h4⟩:=HV.out;cases e;have:=h3 rfl;omega
   have z:Bytes W (.slice (some m) b.length c) b:=HV.out.keep o.keeps (fun p n c' e h=>by cases e;exact h (q _ _ _ rfl));have a7:L m.block = .none:=(o.role _ (HV.out.lt hb0)).trans (q _ _ _ rfl)
   have J:Arg W L (.slice (some m) b.length c) b:=by
    obtain⟨p',c',e,h1,h2,h3,h4⟩:=z;cases e
    exact .inr ⟨m,c,rfl,h1,a7,fun j u hu=>by
     rw[ZN] at hu
     obtain⟨x,s,rfl⟩:=ZO.1 hu
     exact(h4 m rfl).2 j x s⟩
   have Z1:Small S1:=F1.small (by omega);have A:total S1.files S1.names<1099511627776:=by have:=F1.total;omega
   have HT:=jb A;clear A z;go_wp2_with fail;refine(Dd nm b m c r.rep Z1 C HA.out HF.out I (by omega) J (by omega) ab HT.out).mono ?_;rintro e w3 ⟨ρ3,N,⟨s,rfl,R3⟩|⟨s,hy,rfl,R3⟩⟩
   ·have U:=r.step N R3
    go_wp2_with fail;refine(Qc U.z8 nm 1 (by decide)).mono ?_;rintro e w4 ⟨v4,rfl,M,k4⟩;go_wp2;go_ret;refine⟨_,false,?_,ρ3,(o.trans N).same k4,U.same k4,.inr ⟨rfl,v4,rfl,M⟩⟩;rw[R.out,if_neg hb0];exact .inr ⟨S1,HC.out,.inl ⟨⟨f,qd,HA.out,HF.out,.inl ⟨s,rfl,rfl⟩⟩,rfl⟩⟩
   ·have U:=r.step N R3
    go_wp2_with fail;refine(Xy nm w3).mono ?_;rintro e w4 ⟨rfl,rfl⟩;go_wp2;go_ret;refine⟨_,true,?_,ρ3,o.trans N,U,.inl ⟨rfl,rfl⟩⟩;rw[R.out,if_neg hb0];exact .inr ⟨S1,HC.out,.inr ⟨_,⟨f,qd,HA.out,HF.out,.inr ⟨s,hy,rfl,rfl⟩⟩,rfl,rfl⟩⟩
end Go.Proofs.YtnipbplghijdmaaGreatDoor
