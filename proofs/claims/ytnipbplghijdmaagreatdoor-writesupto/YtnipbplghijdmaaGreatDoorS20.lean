/-
  S: Files4 StoreA StoreB View Vol Steps Lay.
-/
import Derived.Test.YtnipbplghijdmaaGreatDoorS19
import Derived.Test.YtnipbplghijdmaaGreatDoorS14
set_option maxRecDepth 100000
set_option maxHeartbeats 8000000
set_option linter.unusedVariables false
set_option linter.unusedSimpArgs false
namespace Go.Proofs.YtnipbplghijdmaaGreatDoor
open RowKit Maps WideShapes Go.Proofs.Tryz
variable {w:World} {ks:List Str} {b d:Nat} {t:TypeId} {ba dv la lo mv nx ru:Value} {deg:Bool}
theorem Ad{base:Nat}{v:Value}(x:Str)(n:ks.length<1099511627776)(c:w.ownsRow base 9 1 v ks.length (ks.map encStr)) :
 Calls prog 214 #[v,jd x] w fun e w'=>e = .returned (.bool (decide (x∈ks)))/\w'=w:=by
 rcases c.2 with⟨rfl,i⟩|⟨g,cap,m,rfl,_,o,t,r,q,p⟩
 ·have:ks=[]:=xB i
  subst this;refine(Tryz.slices_Contains_string_empty none 0 ⟨x.toArray⟩ w).mono ?_;rintro e w' ⟨rfl,rfl⟩;exact⟨by simp,rfl⟩
 ·refine(Tryz.slices_Contains_string g 0 ks.length cap (ks.map fun s=>⟨s.toArray⟩) ⟨x.toArray⟩ w (by simp) (by omega) ?_).mono ?_
  ·intro j f
   have b:j<ks.length:=by simpa using f
   have:=c.cells rfl j (encStr ks[j]) (by rw[zJ,zL b];rfl);rw[add_zero] at this;rw[zP,this];unfold encStr;simp[List.getD,zL b]
  ·rintro e w' ⟨rfl,rfl⟩
   refine⟨?_,rfl⟩;congr 2;rw[Bool.eq_iff_iff,Lib.containsS_iff,ZO (by simp),decide_eq_true_eq,ZN];constructor
   ·rintro⟨s,d,e⟩
    have l:s.toArray=x.toArray:=congrArg ByteArray.data e;have k:s=x:=by simpa using l
    exact k▸d
   ·intro h
    exact⟨x,h,rfl⟩
theorem jbw{ρ:Nat->jz}{S:jh}(R:Rep w ρ d S)(g:S.bad=true) :
 Calls prog 213 #[.pointer (some ⟨d,0,none⟩)] w fun e w'=>e = .returned (.tuple #[.slice none 0 0,.int .i64 1])/\xo w ρ w' ρ/\Rep w' ρ d (S.called false):=by
 go_enter func213,ntmps213
 go_wp2_with (go_at_call 102;refine(zh false R).mono ?_;rintro e f ⟨rfl,b,c⟩)
 go_ret2;exact⟨rfl,c,b⟩
def others(ks ns:List Str):List Str:=ns.filter (fun x=>!decide (x∈ks))
theorem N8{ns:List Str}{k:Nat}{x:Str}(c:k<ns.length)(b:ns[k]=x):others ks (ns.take (k+1))=if x∈ks then others ks (ns.take k)else others ks (ns.take k)++[x]:=by
 unfold others;rw[zY,zL c,b,zZ,xR];by_cases h:x∈ks<;>simp[h]
theorem Iq(ks ns:List Str):(others ks ns).length<=ns.length:=XF _ _
def jh.Yp(ks:List Str)(S:jh):jh×Bool:=if S.bad=true then(S.called false,false)else jh.yo (others ks S.keys) (S.called false)
theorem Ax{E:Nat->Addr}{B:Nat}{ρ:Nat->jz}{S:jh}(D:Dk E B w ρ d S)(Z:Small S)(v:Value)(ks:List Str)(base:Nat)(hv:w.ownsRow base 9 1 v ks.length (ks.map encStr))(hρ:∀ g,v.ownBlock=some g->ρ g = .none)(hl:ks.length<1099511627776)(T:∀ n∈S.keys,n.length<1099511627776)(hz:Maps.size S.safe+S.late.length+S.keys.length<1099511627776) :
 Calls prog 177 #[.pointer (some ⟨d,0,none⟩),v] w (eu E B w ρ d (jh.Yp ks S)):=by
 obtain⟨p,c,rfl⟩:=jj hv;obtain⟨i0,hi,a7,a6,a5⟩:=info_parts Tryz.wu;have C:S.bad=true\/S.bad=false:=by cases S.bad<;>simp
 rcases C with C|C
 ·have f:jh.Yp ks S=(S.called false,false):=by unfold jh.Yp;rw[if_pos C]
  have j:=jb f;clear f;go_enter func177,ntmps177;go_wp2_with fail;refine(jbw D.rep C).mono ?_;rintro e w1 ⟨rfl,J,Y⟩;have D1:=D.step J Y;go_wp2_with fail;refine(Jn D1.Qh [110,97,109,101,115] 1 (by decide)).mono ?_;rintro e A ⟨v2,rfl,he,k2⟩;obtain⟨t1,a1,rfl⟩:=he.shape;go_wp2;go_ret;rw[j.out];exact⟨ρ,J.same k2,D1.same k2,.inr ⟨rfl,_,rfl,he⟩⟩
 ·have f:jh.Yp ks S=jh.yo (others ks S.keys) (S.called false):=by unfold jh.Yp;rw[if_neg (by rw[C];decide)]
  have j:=jb f;clear f;go_enter func177,ntmps177;go_wp2_with fail;refine(jbv D.rep Z C).mono ?_;rintro e w1 ⟨J,Y,pk,ck,rfl,u⟩;have D1:=D.step J Y;have a8:=J.keeps.row hv (fun g hg2 h=>h (hρ g hg2));generalize hns:S.keys=ns at u T hz j;have b4:=jb hns;clear hns;go_wp2_with fail;refine(Q5 [110,97,109,101,115] w1).mono ?_;rintro e A ⟨rfl,rfl⟩;obtain⟨N1,U⟩:∃ N1,N1=A.heap.size:=⟨_,rfl⟩;have b5:=jb U;clear U;go_wp2_with fail
  go_loopw [8,23] (fun v8 i wr=>∃(k:Nat) (ss:List Str) (I:Option Addr) (L:Nat),k<=ns.length/\i = .int .i64 k/\v8 = .slice I ss.length L/\ss=others ks (ns.take k)/\wr.ownsRow A.heap.size 9 1 (.slice I ss.length L) ss.length (ss.map encStr)/\ja A wr (fun _=>False))
   (fun _ i _=>ns.length-(intOf i).toNat)
  case atStart=>exact⟨0,[],none,0,zU _,rfl,rfl,rfl,zS _ _ _ _,ja.refl _ _⟩
  case round =>
   obtain⟨k,ss,I,L,hk,rfl,rfl,F,b,l⟩:=hrel;have a9:=Iq ks (ns.take k);rw[<-F,ZT] at a9;have G:=jb F;clear F;rcases ZJ k ns.length with y|b2
   ·have R:=l.row u (fun _ _ h=>h)
    have N:=l.row a8 (fun _ _ h=>h)
    have X:∃ g,pk=some ⟨g,0,none⟩:=by
     rcases R.2 with⟨_,h0⟩|⟨g,cap,b3,e,_⟩
     ·omega
     ·cases e;exact⟨g,rfl⟩
    obtain⟨g,rfl⟩:=X;have q:=R.cells rfl k (encStr ns[k]) (by rw[zJ,zL y];rfl);rw[add_zero] at q;generalize hx:ns[k]=x at q;have m:=N8 (ks:=ks) y hx;rw[<-G.out] at m;have z:=jb m;clear m hx;unfold encStr at q;have b1:A.heap.size<=wr.heap.size:=l.size;by_cases hxm:x∈ks
    ·have hd:decide (x∈ks)=true:=by simp[hxm]
     have s:Hid (others ks (ns.take (k+1))=ss):=by unfold Hid;rw[z.out,if_pos hxm]
     clear hxm z;go_wp2_with fail;refine(Ad x hl N).mono ?_;rintro e W ⟨rfl,rfl⟩;rw[hd];go_wp2;exact⟨⟨k+1,ss,I,L,y,by simp,rfl,s.out.symm,b,l⟩,by simp[intOf];omega⟩
    ·have hd:decide (x∈ks)=false:=by simp[hxm]
     have s:Hid (others ks (ns.take (k+1))=ss++[x]):=by unfold Hid;rw[z.out,if_neg hxm]
     clear hxm z;have af:Hid (ss.length+1<=maxLen):=by unfold Hid maxLen;omega
     have ad:Hid ((ss.length+1)*16<=140737488355328):=by unfold Hid;omega
     have ae:∀ o,Hid (A.heap.size<=(wr.alloc o).heap.size):=by intro o;unfold Hid;simp;omega
     go_wp2_with fail;refine(Ad x hl N).mono ?_;rintro e W ⟨rfl,rfl⟩;rw[hd];have O:=T5 x;have ai:=jb O;clear O
     go_wp2_with (first
      | (at_builtin;go_must (refine jk _ rfl (.tmp 31) (.tmp 33) 40 rfl A.heap.size 9 i0 (.string ⟨#[]⟩) 1 16 underlying40 hi a7 a6 a5 rfl (ZG 0) (.slice I ss.length L) ss.length (ss.map encStr) rfl (b.alloc _) ⟨W.heap.size,0,none⟩ 1 1 [encStr x] rfl rfl (Jt (je W _) rfl) ai.out af.out ad.out (ae _).out ?_);intro p3 ag w4 H ac aj)
      | go_in)
     have ab:ja A w4 (fun _=>False):=(l.more _).grow ac (fun k e hk=>(by have:=(b.lt k e).1;omega));have t:(ss++[x]).length=ss.length+1:=by simp
     exact⟨⟨k+1,ss++[x],p3,ag,y,by simp,by rw[t],s.out.symm,by rw[t];simpa using H,ab⟩,by simp[intOf];omega⟩
   ·have ek:k=ns.length:=by omega
    have r:ss=others ks ns:=by rw[G.out,ek,zW]
    rw[<-r] at j;have V:∀ n∈ss,n.length<1099511627776:=fun n hn=>T n (by rw[r] at hn;exact(List.mem_filter.1 hn).1);have D2:=D1.same l
    have a4:∀ g,(Value.slice I ss.length L).ownBlock=some g->ρ g = .none:=fun g hg2=>by
     rcases Classical.em (ρ g = .none)with h|h
     ·exact h
     ·have h5:=Y.lt g h
      have h6:=(b.lt g hg2).1;omega
    have M:Maps.size (S.called false).safe+(S.called false).late.length+ss.length<1099511627776:=by show Maps.size S.safe+S.late.length+ss.length<_;omega
    have ah:=jb M;clear M r G;go_wp2_with fail;refine(mn D2 (Z.called false) _ ss _ b a4 V (by omega) ah.out).mono ?_;intro e W X;have hq:=X.before (J.same l);rw[<-j.out] at hq;obtain⟨ρ3,g3,D3,⟨aa,rfl⟩|⟨aa,v1,rfl,he⟩⟩:=X
    all_goals
     go_wp2;go_ret;exact hq
abbrev qe(dv nx la lo ba ru last mv:Value)(deg cl:Bool):Array Value:=#[dv,nx,la,lo,ba,ru,last,mv,.bool deg,.bool cl]
def Qi(deg cl:Bool):Int:=if cl=true then 3 else if deg=true then 4 else 0
theorem Jc{last:Value}{cl:Bool}(c:w.heap[b]?=some (.cells (qe dv nx la lo ba ru last mv deg cl) t (0,0))) :
 Calls prog 60 #[.pointer (some ⟨b,0,none⟩)] w fun e w'=>e = .returned (.int .i64 (Qi deg cl))/\w'=w:=by
 have f:=zA (o:=8) c;have d:=zA (o:=9) c;simp at f d;clear c;cases cl<;>cases deg
 all_goals
  go_enter func60,ntmps60;go_wp2;go_ret;exact⟨rfl,rfl⟩
theorem B8{last:Value}{cl:Bool}(c:w.heap[b]?=some (.cells (qe dv nx la lo ba ru last mv deg cl) t (0,0))) :
 Calls prog 65 #[.pointer (some ⟨b,0,none⟩)] w fun e w'=>e = .returned (.int .i64 1)/\w'.heap[b]?=some (.cells (qe dv nx la lo ba ru last mv true cl) t (0,0))/\ja w w' (fun i=>i=b):=by
 have d:=zA (o:=8) c;have g:=zB (o:=8) c;simp at d;have f:=jb c;clear c;go_enter func65,ntmps65;go_wp2;go_ret;exact⟨rfl,(jc f.out _).trans rfl,ja.setCell w _ _⟩
theorem jas{last:Value}{cl:Bool}(c:w.heap[b]?=some (.cells (qe dv nx la lo ba ru last mv deg cl) t (0,0))) :
 Calls prog 79 #[.pointer (some ⟨b,0,none⟩)] w fun e w'=>e = .returned (.tuple #[])/\w'.heap[b]?=some (.cells (qe (.pointer none) nx la lo ba ru last (.slice none 0 0) deg true) t (0,0))/\ja w w' (fun i=>i=b):=by
 have g:=zA (o:=0) c;have f:=zA (o:=7) c;have d:=zA (o:=9) c;have m:=zB (o:=0) c;have l:=zB (o:=7) c;have k:=zB (o:=9) c;simp at g f d;have j:=jb c;clear c;go_enter func79,ntmps79;go_wp2;go_end0;exact⟨rfl,(jc (jc (jc j.out _) _) _).trans rfl,((ja.setCell w ⟨b,9,none⟩ _).set (p:=⟨b,0,none⟩) rfl _).set (p:=⟨b,7,none⟩) rfl _⟩
theorem Ku{last:Value}{cl:Bool}(c:w.heap[b]?=some (.cells (qe dv nx la lo ba ru last mv deg cl) t (0,0))) :
 Calls prog 40 #[.pointer (some ⟨b,0,none⟩)] w fun e w'=>ja w w' (fun i=>i=b) /\
  ((cl=true/\e = .returned (.int .i64 3)/\w'=w)\/(cl=false/\e = .returned (.int .i64 0)/\w'.heap[b]?=some (.cells (qe (.pointer none) nx la lo ba ru last (.slice none 0 0) deg true) t (0,0)))):=by
 have g:=zA (o:=9) c;simp at g;have j:=jb c;clear c
 cases cl with
 | true =>
  go_enter func40,ntmps40;go_wp2;go_ret;exact⟨ja.refl _ _,.inl ⟨by first|trivial|rfl,rfl,rfl⟩⟩
 | false =>
  go_enter func40,ntmps40;go_wp2_with fail;refine(jas j.out).mono ?_;rintro e l ⟨rfl,d,f⟩;have k:=jb d;clear d;go_wp2;go_ret;exact⟨f,.inr ⟨by first|trivial|rfl,rfl,k.out⟩⟩
end Go.Proofs.YtnipbplghijdmaaGreatDoor
namespace Go.Proofs.YtnipbplghijdmaaGreatDoor
open RowKit Maps WideShapes Go.Sort Go.Proofs.Tryz
variable {α:Type} {ds n nm sr:Str} {D:DataW Nat} {f k m:Nat} {U V:List (Str×List UInt8)} {b c:List UInt8}
abbrev Tok:=Str×Nat
def jdk(p:Tok):Lit×DataW Nat:=(.string p.1,.held p.2)
structure cz(D:DataW Nat)(T:List Tok):Prop where
 es:∃ es,D = .map es/\es.Perm (T.map jdk)
 apart:T.Pairwise (fun p q=>p.1≠q.1)
theorem cz.nil:cz (.map []) []:=⟨⟨[],rfl,List.Perm.nil⟩,List.Pairwise.nil⟩
def jo{α:Type}(T:List (Str×α))(n:Str):List (Str×α):=T.filter (fun p=>decide (p.1≠n))
theorem xf{T:List (Str×α)}{p:Str×α}:p∈jo T n↔p∈T/\p.1≠n:=by simp[jo]
theorem Y3{T:List (Str×α)}(h:T.Pairwise (fun p q=>p.1≠q.1))(n:Str):(jo T n).Pairwise (fun p q=>p.1≠q.1):=h.sublist XV
theorem Bo(n m:Str):(Lit.string n).sameKey (.string m)=decide (n=m):=by
 by_cases h:n=m
 ·subst h
  rw[WideAt.sameKey_self (by trivial)];simp
 ·rw[sameKey_ne (fun e=>h (by injection e))]
  simp[h]
theorem Gm(T:List Tok)(n:Str):(T.map jdk).filter (fun p=>!p.1.sameKey (.string n))=(jo T n).map jdk:=by
 induction T with
 | nil=>rfl
 | cons x r ih =>
  unfold jo at *
  rw[zI,List.filter_cons,List.filter_cons];show(if !(Lit.string x.1).sameKey (.string n)then _ else _)=_;rw[Bo];by_cases h:x.1=n
  ·simp[h,ih]
  ·simp[h,ih]
theorem insert_perm(x:Lit×DataW Nat)(l:List (Lit×DataW Nat)):(DataW.insert x l).Perm (x::l):=by
 induction l with
 | nil=>exact List.Perm.refl _
 | cons y r ih =>
  unfold DataW.insert
  split
  ·exact List.Perm.refl _
  ·exact(ih.cons y).trans (List.Perm.swap x y r)
theorem cz.del{T:List Tok}(h:cz D T)(n:Str):cz (D.del (.string n)) (jo T n):=by
 obtain⟨⟨es,rfl,q⟩,a⟩:=h;exact⟨⟨_,rfl,by rw[<-Gm];exact q.filter _⟩,Y3 a n⟩
theorem cz.put{T:List Tok}(h:cz D T)(n:Str)(f:Nat):cz (D.put (.string n) (.held f)) ((n,f)::jo T n):=by
 obtain⟨⟨es,rfl,q⟩,a⟩:=h;refine⟨⟨_,rfl,(insert_perm _ _).trans ?_⟩,zG.2 ⟨fun p hp=>Ne.symm (xf.1 hp).2,Y3 a n⟩⟩;rw[zI,<-Gm];exact(q.filter _).cons _
theorem cz.at{T:List Tok}(h:cz D T)(b:(n,f)∈T)(z:DataW Nat):D.atKey (.string n) z = .held f:=by
 obtain⟨⟨es,rfl,q⟩,a⟩:=h;have d:jdk (n,f)∈es:=q.mem_iff.2 (ZN.2 ⟨_,b,rfl⟩)
 have c:es.Pairwise (fun p q=>p.1≠q.1):=by
  refine(q.pairwise_iff (fun e=>Ne.symm e)).2 ?_;rw[XW];exact a.imp (fun h e=>h (by injection e))
 exact WideAt.atKey_mem (k:= .string n) z (by trivial) c d
theorem cz.none{T:List Tok}(h:cz D T)(c:∀ f,(n,f)∉T)(z:DataW Nat):D.atKey (.string n) z=z:=by
 obtain⟨⟨es,rfl,q⟩,a⟩:=h
 have:es.find? (fun p=>p.1.sameKey (.string n))=Option.none:=by
  refine List.find?_eq_none.2 (fun p hp=>?_);obtain⟨t,b,rfl⟩:=ZN.1 (q.mem_iff.1 hp);show ¬(Lit.string t.1).sameKey (.string n)=true;rw[Bo];intro e;have d:t.1=n:=by simpa using e
  exact c t.2 (by rw[<-d];exact b)
 simp only[DataW.atKey,this]
theorem Dp{l m:List Nat}(p:l.Perm m):l.sum=m.sum:=by
 induction p with
 | nil=>rfl
 | cons x _ ih=>simp[ih]
 | swap x y l=>simp;omega
 | trans _ _ i j=>exact i.trans j
theorem cz.total{T:List Tok}(h:cz D T)(fs:Nat->Option ye):total fs D=(T.map (fun p=>((fs p.2).elim 0 (fun a=>a.bytes.length)))).sum:=by
 obtain⟨⟨es,rfl,q⟩,a⟩:=h;unfold Go.Proofs.YtnipbplghijdmaaGreatDoor.total;rw[Dp ((show(entriesOf (.map es))=es from rfl)▸(q.map _))];rw[List.map_map];rfl
theorem cz.keys{T:List Tok}(h:cz D T):(strKeys D).Perm (T.map Prod.fst):=by
 obtain⟨⟨es,rfl,q⟩,a⟩:=h;unfold strKeys;refine(q.map _).trans ?_;rw[List.map_map];exact List.Perm.of_eq (zF (fun p _=>rfl))
theorem cz.size{T:List Tok}(h:cz D T):Maps.size D=T.length:=by
 obtain⟨⟨es,rfl,q⟩,a⟩:=h;show es.length=_;rw[q.length_eq,ZM]
structure Fs(S:jh)(T:List Tok):Prop where
 uy:cz S.names T
 files:∀ p∈T,∃ a,S.files p.2=some a
 apart:T.Pairwise (fun p q=>p.2≠q.2)
def Yq(fs:Nat->Option ye)(f:Nat):List UInt8:=(fs f).elim [] ye.bytes
def Xe(fs:Nat->Option ye)(T:List Tok):List (Str×List UInt8):=T.map (fun p=>(p.1,Yq fs p.2))
def View(S:jh)(V:List (Str×List UInt8)):Prop:=∃ T,Fs S T/\V.Perm (Xe S.files T)
def yc(V:List (Str×List UInt8))(n:Str)(b:List UInt8):List (Str×List UInt8):=(n,b)::jo V n
def j3(V:List (Str×List UInt8)):Nat:=(V.map (fun p=>p.2.length)).sum
theorem Dc(p:V.Perm U):j3 V=j3 U:=Dp (p.map _)
theorem y7(p:Str×List UInt8)(V:List (Str×List UInt8)):j3 (p::V)=p.2.length+j3 V:=by simp[j3]
theorem yh(V:List (Str×List UInt8))(n:Str):j3 (jo V n)<=j3 V:=by
 induction V with
 | nil=>simp[jo,j3]
 | cons x r ih =>
  unfold jo at *
  rw[List.filter_cons]
  split
  ·rw[y7,y7];omega
  ·rw[y7];omega
theorem rz(h:V.Pairwise (fun p q=>p.1≠q.1))(c:(n,b)∈V):j3 (jo V n)+b.length=j3 V:=by
 induction V with
 | nil=>cases c
 | cons x r ih =>
  obtain⟨d,f⟩:=zG.1 h;rcases zH.1 c with rfl|c
  ·have e:jo ((n,b)::r) n=r:=by
    unfold jo;rw[XZ (by simp)];exact yA.2 (fun p hp=>by simpa using fun e=>d p hp e.symm)
   rw[e,y7]
   show j3 r+b.length=b.length+j3 r
   omega
  ·have e:jo (x::r) n=x::jo r n:=by
    unfold jo;rw[XT (by simpa using d _ c)]
   rw[e,y7,y7,<-ih f c]
   omega
theorem View.perm{S:jh}(h:View S V)(p:U.Perm V):View S U:=by
 obtain⟨T,F,q⟩:=h;exact⟨T,F,p.trans q⟩
theorem Ye(fs:Nat->Option ye)(T:List Tok)(n:Str):jo (Xe fs T) n=Xe fs (jo T n):=by
 unfold Xe jo;rw[List.filter_map];rfl
theorem View.apart{S:jh}(h:View S V):V.Pairwise (fun p q=>p.1≠q.1):=by
 obtain⟨T,F,q⟩:=h;refine(q.pairwise_iff (fun e=>Ne.symm e)).2 ?_;unfold Xe;rw[XW];exact F.uy.apart
theorem Fs.at{S:jh}{T:List Tok}(h:Fs S T):S.at n=some f↔(n,f)∈T:=by
 unfold jh.at
 constructor
 ·intro e
  rcases Classical.em (∃ g,(n,g)∈T)with⟨g,b⟩|c
  ·rw[h.uy.at b] at e
   cases e;exact b
  ·rw[h.uy.none (fun f hf=>c ⟨f,hf⟩)] at e
   cases e
 ·intro e
  rw[h.uy.at e];rfl
theorem View.get{S:jh}(h:View S V)(g:(n,b)∈V):∃ f a,S.at n=some f/\S.files f=some a/\a.bytes=b:=by
 obtain⟨T,F,q⟩:=h;obtain⟨t,c,e⟩:=ZN.1 (q.mem_iff.1 g);obtain⟨a,d⟩:=F.files t c;injection e with e1 e2;refine⟨t.2,a,?_,d,?_⟩
 ·rw[F.at,<-e1];exact c
 ·rw[<-e2];unfold Yq;rw[d];rfl
theorem View.of{S:jh}(h:View S V){a:ye}(c:S.at n=some f)(b:S.files f=some a):(n,a.bytes)∈V:=by
 obtain⟨T,F,q⟩:=h;refine q.mem_iff.2 (ZN.2 ⟨(n,f),F.at.1 c,?_⟩);unfold Yq;rw[b];rfl
theorem View.none{S:jh}(h:View S V)(c:∀ b,(n,b)∉V):S.at n=Option.none:=by
 cases e:S.at n with
 | none=>rfl
 | some f =>
  have g:=h;obtain⟨T,F,q⟩:=h;obtain⟨a,d⟩:=F.files _ (F.at.1 e);exact(c _ (g.of e d)).elim
theorem View.one{S:jh}(h:View S V)(l:(n,b)∈V)(k:(n,c)∈V):b=c:=by
 obtain⟨f,a,o,m,rfl⟩:=h.get l;obtain⟨g,d,j,i,rfl⟩:=h.get k;rw[o] at j;cases j;rw[m] at i;cases i;rfl
theorem View.total{S:jh}(h:View S V):total S.files S.names=j3 V:=by
 obtain⟨T,F,q⟩:=h;rw[F.uy.total,Dc q];unfold j3 Xe;rw[List.map_map];congr 1;refine zF (fun p _=>?_);simp only[Function.comp,Yq];cases S.files p.2<;>rfl
theorem View.keys{S:jh}(h:View S V):S.keys.Perm (V.map Prod.fst):=by
 obtain⟨T,F,q⟩:=h;unfold jh.keys;refine(List.mergeSort_perm _ _).trans (F.uy.keys.trans ?_);have:=q.map Prod.fst;unfold Xe at this;rw[List.map_map] at this;exact this.symm
theorem View.count{S:jh}(h:View S V):Maps.size S.names=V.length:=by
 obtain⟨T,F,q⟩:=h;rw[F.uy.size,q.length_eq];simp[Xe]
theorem View.A8{S S':jh}(h:View S V)(c:S'.names=S.names)(b:S'.files=S.files):View S' V:=by
 obtain⟨T,F,q⟩:=h;exact⟨T,⟨c▸F.uy,by rw[b];exact F.files,F.apart⟩,by rw[b];exact q⟩
theorem View.called{S:jh}(h:View S V)(b:Bool):View (S.called b) V:=h.A8 rfl rfl
theorem View.write{S:jh}(h:View S V)(A:S.at n=some f)(a':ye):View (S.withFile f a') (yc V n a'.bytes):=by
 obtain⟨T,F,q⟩:=h;have d:=F.at.1 A;refine⟨T,⟨F.uy,fun p c=>?_,F.apart⟩,?_⟩
 ·by_cases e:p.2=f
  ·exact⟨a',by simp[jh.withFile,e]⟩
  ·obtain⟨a,g⟩:=F.files p c
   exact⟨a,by simp[jh.withFile,e,g]⟩
 ·have z:T.Perm ((n,f)::jo T n):=by
   have H:∀ {T:List Tok},T.Pairwise (fun p q=>p.1≠q.1)->(n,f)∈T->T.Perm ((n,f)::jo T n):=by
    intro T
    induction T with
    | nil=>intro _ h;cases h
    | cons x r ih =>
     intro c d;obtain⟨i,l⟩:=zG.1 c;rcases zH.1 d with rfl|d
     ·have e:jo ((n,f)::r) n=r:=by
       unfold jo;rw[XZ (by simp)];exact yA.2 (fun p c=>by simpa using fun e=>i p c e.symm)
      rw[e]
     ·have e:jo (x::r) n=x::jo r n:=by
       unfold jo;rw[XT (by simpa using i _ d)]
      rw[e]
      exact((ih l d).cons x).trans (List.Perm.swap _ _ _)
   exact H F.uy.apart d
  have v:(jo V n).Perm (Xe S.files (jo T n)):=by rw[<-Ye];exact q.filter _
  have e:Xe (S.withFile f a').files ((n,f)::jo T n)=(n,a'.bytes)::Xe S.files (jo T n):=by
   unfold Xe;rw[zI];congr 1
   ·simp[Yq,jh.withFile]
   ·refine zF (fun p c=>?_)
    obtain⟨o,m⟩:=xf.1 c
    have s:p.2≠f:=by
     intro e
     have H:∀ {T:List Tok},T.Pairwise (fun p q=>p.2≠q.2)->∀ a∈T,∀ b∈T,a.2=b.2->a=b:=by
      intro T
      induction T with
      | nil=>intro _ a g;cases g
      | cons x r ih =>
       intro c a g b y e;obtain⟨i,l⟩:=zG.1 c;rcases zH.1 g with u|k<;>rcases zH.1 y with t|j
       ·exact u.trans t.symm
       ·exact(i b j (u▸e)).elim
       ·exact(i a k (t▸e.symm)).elim
       ·exact ih l a k b j e
     have:=H F.apart p o (n,f) d e;exact m (by rw[this])
    simp[Yq,jh.withFile,s]
  exact(v.cons _).trans ((List.Perm.of_eq e.symm).trans ((z.map _).symm))
theorem Vr(h:V.Pairwise (fun p q=>p.1≠q.1))(c:(n,b)∈V):V.Perm (yc V n b):=by
 unfold yc
 induction V with
 | nil=>cases c
 | cons x r ih =>
  obtain⟨d,f⟩:=zG.1 h;rcases zH.1 c with rfl|c
  ·have e:jo ((n,b)::r) n=r:=by
    unfold jo;rw[XZ (by simp)];exact yA.2 (fun p hp=>by simpa using fun e=>d p hp e.symm)
   rw[e]
  ·have e:jo (x::r) n=x::jo r n:=by
    unfold jo;rw[XT (by simpa using d _ c)]
   rw[e]
   exact((ih f c).cons x).trans (List.Perm.swap _ _ _)
theorem View.synced{S:jh}(h:View S V){a:ye}(b:S.at n=some f)(c:S.files f=some a):View (S.withFile f a.synced) V :=
 by
 have d:(n,a.synced.bytes)∈V:=by have:=h.of b c;exact this
 exact(h.write b a.synced).perm (Vr h.apart d)
theorem View.create{S:jh}(h:View S V)(j:S.files f=Option.none)(l:n≠[]):View ((S.withFile f Ja).named ⟨n,[],[],some f⟩) (yc V n []):=by
 obtain⟨T,F,q⟩:=h
 have k:(((S.withFile f Ja).named ⟨n,[],[],some f⟩)).names=S.names.put (.string n) (.held f):=by
  have g:n.isEmpty=false:=by cases n<;>simp_all
  simp[jh.named,doA,g,ov,jh.withFile]
 have b:∀ p∈jo T n,p.2≠f:=fun p c e=>by
  obtain⟨a,d⟩:=F.files p (xf.1 c).1;rw[e,j] at d;cases d
 refine⟨(n,f)::jo T n,⟨by rw[k];exact F.uy.put n f,fun p c=>?_,?_⟩,?_⟩
 ·rcases zH.1 c with rfl|c
  ·exact⟨Ja,by simp[jh.named,jh.withFile]⟩
  ·obtain⟨a,d⟩:=F.files p (xf.1 c).1
   exact⟨a,by simp[jh.named,jh.withFile,b p c,d]⟩
 ·exact zG.2 ⟨fun p c=>Ne.symm (b p c),F.apart.sublist XV⟩
 ·have i:(jo V n).Perm (Xe S.files (jo T n)):=by rw[<-Ye];exact q.filter _
  refine(i.cons (n,[])).trans (List.Perm.of_eq ?_);unfold Xe;rw[zI];congr 1
  ·simp[Yq,jh.named,jh.withFile,Ja]
  ·refine zF (fun p c=>?_)
   simp[Yq,jh.named,jh.withFile,b p c]
theorem View.C5{S:jh}(h:View S V)(n:Str):View (S.named ⟨[],n,[],Option.none⟩) (jo V n):=by
 obtain⟨T,F,q⟩:=h;refine⟨jo T n,⟨?_,fun p hp=>F.files p (xf.1 hp).1,F.apart.sublist XV⟩,?_⟩
 ·show cz (doA S.names ⟨[],n,[],Option.none⟩) _
  exact F.uy.del n
 ·rw[<-Ye]
  exact q.filter _
theorem View.renamed{S:jh}(h:View S V)(B:ds≠[])(j:ds≠sr){a:ye}(z:S.at sr=some f)(g:S.files f=some a) :
 View (S.named ⟨[],sr,ds,some f⟩) (yc (jo V sr) ds a.bytes):=by
 obtain⟨T,F,q⟩:=h;have u:=F.at.1 z;have m:ds.isEmpty=false:=by cases ds<;>simp_all
 have v:(S.named ⟨[],sr,ds,some f⟩).names=(S.names.put (.string ds) (.held f)).del (.string sr):=by
  simp[jh.named,doA,m,ov,j]
 have n:=(F.uy.put ds f).del sr
 have e:jo ((ds,f)::jo T ds) sr=(ds,f)::jo (jo T sr) ds:=by
  unfold jo;rw[XT (by simpa using j),yB,yB];congr 1;refine List.filter_congr (fun p _=>?_);rw[Bool.and_comm]
 rw[e] at n
 have d:∀ p∈jo (jo T sr) ds,p.2≠f:=fun p c e=>by
  have i:=(xf.1 (xf.1 c).1)
  have H:∀ {T:List Tok},T.Pairwise (fun p q=>p.2≠q.2)->∀ a∈T,∀ b∈T,a.2=b.2->a=b:=by
   intro T
   induction T with
   | nil=>intro _ a g;cases g
   | cons x r ih =>
    intro c a g b y e;obtain⟨i,A⟩:=zG.1 c;rcases zH.1 g with s|l<;>rcases zH.1 y with o|k
    ·exact s.trans o.symm
    ·exact(i b k (s▸e)).elim
    ·exact(i a l (o▸e.symm)).elim
    ·exact ih A a l b k e
  exact i.2 (by rw[H F.apart p i.1 (sr,f) u e])
 refine⟨(ds,f)::jo (jo T sr) ds,⟨by rw[v];exact n,fun p c=>?_,?_⟩,?_⟩
 ·rcases zH.1 c with rfl|c
  ·exact⟨a,g⟩
  ·exact F.files p (xf.1 (xf.1 c).1).1
 ·exact zG.2 ⟨fun p c=>Ne.symm (d p c),(F.apart.sublist XV).sublist XV⟩
 ·have t:(jo (jo V sr) ds).Perm (Xe S.files (jo (jo T sr) ds)):=by
   rw[<-Ye,<-Ye];exact(q.filter _).filter _
  refine(t.cons (ds,a.bytes)).trans (List.Perm.of_eq ?_)
  unfold Xe
  rw[zI]
  congr 1
  simp only[Yq,jh.named,g]
  rfl
structure Fit(k:Nat)(S:jh):Prop where
 fs:∃ T,Fs S T
 names:Maps.size S.names<=k
 safe:Maps.size S.safe+S.late.length<=k
 pz:IsMap S.safe
 files:∀ f a,S.files f=some a->a.bytes.length<=k/\a.late.length<=k/\a.safe<=k
 total:total S.files S.names<=k
 keys:∀ n∈S.keys,n.length<=k
theorem Fit.view{S:jh}(h:Fit k S):∃ V,View S V:=by
 obtain⟨T,F⟩:=h.fs;exact⟨_,T,F,List.Perm.refl _⟩
theorem View.fs{S:jh}(h:View S V):∃ T,Fs S T:=by
 obtain⟨T,F,_⟩:=h;exact⟨T,F⟩
theorem Fit.mono{S:jh}(h:Fit k S)(b:k<=m):Fit m S :=
 ⟨h.fs,ZF h.names b,ZF h.safe b,h.pz,fun f a ha=>⟨ZF (h.files f a ha).1 b,ZF (h.files f a ha).2.1 b,ZF (h.files f a ha).2.2 b⟩,ZF h.total b,fun n hn=>ZF (h.keys n hn) b⟩
theorem Fit.small{S:jh}(h:Fit k S)(b:k<549755813888):Small S :=
 ⟨by have:=h.names;omega,by have:=h.safe;omega,by have:=h.safe;omega,fun f a ha=>by have:=h.files f a ha;omega⟩
theorem Fit.A8{S S':jh}(h:Fit k S)(b:S'.names=S.names)(c:S'.files=S.files)(d:S'.safe=S.safe)(g:S'.late=S.late):Fit k S':=by
 obtain⟨V,f⟩:=h.view;exact⟨(f.A8 b c).fs,by rw[b];exact h.names,by rw[d,g];exact h.safe,by rw[d];exact h.pz,by rw[c];exact h.files,by rw[b,c];exact h.total,by unfold jh.keys;rw[b];exact h.keys⟩
theorem Fit.called{S:jh}(h:Fit k S)(b:Bool):Fit k (S.called b):=h.A8 rfl rfl rfl rfl
theorem Fit.write{S:jh}(h:Fit k S){a:ye}(l:S.at n=some f)(i:S.files f=some a){c:Nat}{a':ye}(r:a'.bytes.length<=a.bytes.length+c)(q:a'.late.length<=a.late.length+c)(p:a'.safe<=k+c):Fit (k+c) (S.withFile f a'):=by
 obtain⟨V,d⟩:=h.view;have j:=d.write l a';have m:=d.of l i;refine⟨j.fs,ZF h.names (by omega),ZF h.safe (by omega),h.pz,fun g b hg=>?_,?_,fun n hn=>ZF (h.keys n hn) (by omega)⟩
 ·by_cases e:g=f
  ·simp[jh.withFile,e] at hg
   subst hg;have:=h.files f a i;omega
  ·simp[jh.withFile,e] at hg
   have:=h.files g b hg;omega
 ·rw[j.total]
  have s:=rz d.apart m;have o:=h.total;rw[d.total] at o;unfold yc;rw[y7];show a'.bytes.length+j3 (jo V n)<=k+c;omega
theorem Fit.synced{S:jh}(h:Fit k S){a:ye}(d:S.at n=some f)(b:S.files f=some a):Fit k (S.withFile f a.synced) :=
 h.write (c:=0) d b (by simp[ye.synced]) (by simp[ye.synced]) (by have:=h.files f a b;simp[ye.synced];omega)
theorem Fit.put{S:jh}(h:Fit k S){a:ye}(c:S.at n=some f)(b:S.files f=some a)(src:List UInt8):Fit (k+src.length) (S.withFile f (a.put src)):=by
 have d:=h.files f a b;by_cases e:src=[]
 ·refine h.write c b ?_ ?_ ?_
  all_goals (simp[ye.put,e];try omega)
 ·have:0<src.length:=XY.2 e
  refine h.write c b ?_ ?_ ?_
  all_goals (simp[ye.put,e];try omega)
theorem ng(D:DataW Nat)(k:Lit)(d:DataW Nat):Maps.size (D.put k d)<=Maps.size D+1:=by
 cases D with
 | map es =>
  show(DataW.insert (k,d) (es.filter fun p=>!p.1.sameKey k)).length<=es.length+1;rw[(insert_perm _ _).length_eq,zX];have:=XF (fun p:Lit×DataW Nat=>!p.1.sameKey k) es;omega
 | _=>exact Nat.le_succ _
theorem Bm(D:DataW Nat)(k:Lit):Maps.size (D.del k)<=Maps.size D:=by
 cases D with
 | map es=>exact XF _ _
 | _=>exact xA _
theorem Dy(D:DataW Nat)(c:zt):Maps.size (doA D c)<=Maps.size D+1:=by
 unfold doA
 split
 ·exact ng _ _ _
 ·split
  ·split
   ·exact ZF (Bm _ _) (ng _ _ _)
   ·exact ng _ _ _
  ·exact ZF (Bm _ _) (Nat.le_succ _)
theorem Wc(h:IsMap D)(c:zt):IsMap (doA D c):=by
 unfold doA
 split
 ·exact h.put _ _
 ·split
  ·split
   ·exact(h.put _ _).del _
   ·exact h.put _ _
  ·exact h.del _
theorem Ho(l:List zt)(D:DataW Nat):Maps.size (l.foldl doA D)<=Maps.size D+l.length:=by
 induction l generalizing D with
 | nil=>exact xA _
 | cons c r ih =>
  have d:=ih (doA D c);have b:=Dy D c;rw[List.foldl_cons,zX];omega
theorem Oz(l:List zt)(h:IsMap D):IsMap (l.foldl doA D):=by
 induction l generalizing D with
 | nil=>exact h
 | cons c r ih=>exact ih (Wc h c)
theorem Fit.named{S:jh}(h:Fit k S)(g:View S V){c:zt}(b:View (S.named c) U)(j:j3 U<=j3 V)(d:∀ n∈U.map Prod.fst,n.length<=k+m):Fit (k+1+m) (S.named c):=by
 have p:=Dy S.names c;have o:=h.names;have l:=h.safe;have i:=h.total;rw[g.total] at i;refine⟨b.fs,by show Maps.size (doA S.names c)<=_;omega,?_,h.pz,fun f a ha=>?_,?_,fun n hn=>?_⟩
 ·show Maps.size S.safe+(S.late++[c]).length<=_
  rw[ZY,xC];omega
 ·have:=h.files f a ha
  omega
 ·rw[b.total];omega
 ·have:=d n (b.keys.mem_iff.1 hn)
  omega
theorem Fit.key{S:jh}(h:Fit k S)(b:View S V):∀ n∈V.map Prod.fst,n.length<=k:=fun n hn=>h.keys n (b.keys.mem_iff.2 hn)
theorem My{m:Str}(h:m∈(yc V n b).map Prod.fst):m=n\/m∈V.map Prod.fst:=by
 unfold yc at h;rw[zI] at h;rcases zH.1 h with h|h
 ·exact .inl h
 ·obtain⟨p,c,e⟩:=ZN.1 h
  exact .inr (ZN.2 ⟨p,(xf.1 c).1,e⟩)
theorem Fit.create{S:jh}(h:Fit k S)(j:S.files f=none)(r:n≠[]):Fit (k+1+n.length) ((S.withFile f Ja).named ⟨n,[],[],some f⟩):=by
 obtain⟨V,l⟩:=h.view;have s:=l.create j r;obtain⟨T,F,q⟩:=l;have c:∀ p∈T,p.2≠f:=fun p hp e=>by obtain⟨a,d⟩:=F.files p hp;rw[e,j] at d;cases d
 have b:View (S.withFile f Ja) V:=by
  refine⟨T,⟨F.uy,fun p hp=>?_,F.apart⟩,q.trans (List.Perm.of_eq ?_)⟩
  ·obtain⟨a,d⟩:=F.files p hp
   exact⟨a,by simp[jh.withFile,c p hp,d]⟩
  ·refine zF (fun p hp=>?_)
   simp[Yq,jh.withFile,c p hp]
 have o:Fit k (S.withFile f Ja):=by
  refine⟨b.fs,h.names,h.safe,h.pz,fun g a hg=>?_,?_,h.keys⟩
  ·by_cases e:g=f
   ·simp[jh.withFile,e] at hg
    subst hg;simp[Ja]
   ·simp[jh.withFile,e] at hg
    exact h.files g a hg
  ·rw[b.total]
   have:=h.total;rwa [View.total ⟨T,F,q⟩] at this
 refine o.named b s ?_ (fun m i=>?_)
 ·unfold yc
  rw[y7];have:=yh V n;show 0+j3 (jo V n)<=j3 V;omega
 ·rcases My i with rfl|i
  ·omega
  ·have:=o.key b m i
   omega
theorem Fit.C5{S:jh}(h:Fit k S)(n:Str):Fit (k+1) (S.named ⟨[],n,[],none⟩):=by
 obtain⟨V,b⟩:=h.view;refine h.named (m:=0) b (b.C5 n) (yh V n) (fun m hm=>?_);obtain⟨p,c,e⟩:=ZN.1 hm;exact h.key b m (ZN.2 ⟨p,(xf.1 c).1,e⟩)
theorem Fit.renamed{S:jh}(h:Fit k S)(g:ds≠[])(d:ds≠sr){a:ye}(j:S.at sr=some f)(i:S.files f=some a):Fit (k+1+ds.length) (S.named ⟨[],sr,ds,some f⟩):=by
 obtain⟨V,b⟩:=h.view;have n:=b.renamed g d j i;refine h.named (m:=ds.length) b n ?_ (fun m c=>?_)
 ·have q:=rz b.apart (b.of j i)
  have o:=yh (jo V sr) ds;unfold yc;rw[y7];show a.bytes.length+_<=_;omega
 ·rcases My c with rfl|c
  ·omega
  ·obtain⟨p,l,e⟩:=ZN.1 c
   have:=h.key b m (ZN.2 ⟨p,(xf.1 l).1,e⟩);omega
theorem Fit.mr{S:jh}(h:Fit k S):Fit k S.mr.1:=by
 unfold jh.mr
 split
 ·exact h.called true
 ·have d:=Ho S.late S.safe
  have c:=h.safe;obtain⟨V,b⟩:=h.view;exact⟨(b.A8 (S':={ S.called true with safe:=S.late.foldl doA S.safe,late:=[] }) rfl rfl).fs,h.names,by show Maps.size (S.late.foldl doA S.safe)+0<=k;omega,Oz _ h.pz,h.files,h.total,h.keys⟩
theorem Fit.Qb{S:jh}(h:Fit k S)(n:Str):Fit k (S.Qb n).1:=by
 unfold jh.Qb
 split
 ·exact h.called true
 ·split
  ·exact h.called true
  ·rename_i f hA
   split
   ·exact h.called true
   ·rename_i a ha
    exact(h.called true).synced (n:=n) hA ha
theorem Fit.X8{S:jh}(h:Fit k S)(ns:List Str):Fit k (jh.X8 ns S).1:=by
 induction ns generalizing S with
 | nil=>exact h.mr
 | cons n r ih =>
  unfold jh.X8
  split
  ·exact ih (h.Qb n)
  ·exact h.Qb n
theorem Fit.yn{S:jh}(h:Fit k S)(n:Str):Fit (k+1) (S.yn n).1:=by
 unfold jh.yn
 split
 ·exact(h.called true).mono (by omega)
 ·split
  ·exact(h.called true).mono (by omega)
  ·exact(h.called true).C5 n
theorem Fit.Jw{S:jh}(h:Fit k S)(b:ds≠sr):Fit (k+1+ds.length) (S.Jw sr ds).1:=by
 unfold jh.Jw
 split
 ·exact(h.called true).mono (by omega)
 ·split
  ·exact(h.called true).mono (by omega)
  ·rename_i f hA
   split
   ·exact(h.called true).mono (by omega)
   ·rename_i hds
    obtain⟨T,F⟩:=h.fs;obtain⟨a,c⟩:=F.files _ (F.at.1 hA);exact(h.called true).renamed hds b (sr:=sr) hA c
theorem Fit.zy{S:jh}(h:Fit k S)(ns:List Str):Fit (k+ns.length) (jh.zy ns S).1:=by
 induction ns generalizing S k with
 | nil=>exact h
 | cons n r ih =>
  unfold jh.zy
  split
  ·exact(ih (h.yn n)).mono (by rw[zX];omega)
  ·exact(h.yn n).mono (by rw[zX];omega)
theorem Fit.Qr{F:jh×Bool}(h:Fit k F.1):Fit k (Go.Proofs.YtnipbplghijdmaaGreatDoor.Qr F).1:=by
 unfold Go.Proofs.YtnipbplghijdmaaGreatDoor.Qr
 split
 ·exact h.mr
 ·exact h
theorem Fit.yo{S:jh}(h:Fit k S)(ns:List Str):Fit (k+ns.length) (jh.yo ns S).1:=by
 unfold jh.yo
 split
 ·exact h.mono (by omega)
 ·exact(h.zy ns).Qr
theorem Fit.Yp{S:jh}(h:Fit k S)(ks:List Str):Fit (k+S.keys.length) (jh.Yp ks S).1:=by
 unfold jh.Yp
 split
 ·exact(h.called false).mono (by omega)
 ·refine((h.called false).yo _).mono ?_
  have:(others ks S.keys).length<=S.keys.length:=XF _ _;omega
theorem Fit.Ov{S:jh}(h:Fit k S):S.keys.length<=k:=by
 obtain⟨V,b⟩:=h.view;rw[b.keys.length_eq,ZM,<-b.count];exact h.names
theorem Fit.new:Fit 0 jh.new:=by
 refine⟨⟨[],⟨cz.nil,fun p hp=>(by cases hp),List.Pairwise.nil⟩⟩,xA _,xA _,⟨[],rfl⟩,fun f a h=>(by cases h),xA _,fun n hn=>?_⟩;have:jh.new.keys=[]:=by simp[jh.keys,jh.new,strKeys]
 rw[this] at hn;cases hn
abbrev DStep:=jh->jh->Bool->Prop
def Fn(f:jh->jh×Bool):DStep:=fun S S' ok=>f S=(S',ok)
def Tu:List DStep->DStep
 | [],S,S',ok=>S'=S/\ok=true
 | R::r,S,S',ok=>(R S S' false/\ok=false)\/∃ S1,R S S1 true/\Tu r S1 S' ok
def jdh(nm:Str)(b:List UInt8):DStep:=fun S S' ok=>∃ f a,S.at nm=some f/\S.files f=some a /\
 (((S.bad=true\/20000<b.length+total S.files S.names)/\S'=(S.called true).withFile f (a.put (b.take (b.length/2)))/\ok=false) \/
  (S.bad=false/\b.length+total S.files S.names<=20000/\S'=(S.called true).withFile f (a.put b)/\ok=true))
def Tv(nm:Str):DStep:=fun S S' ok =>
 (S.bad=true/\S'=S.called true/\ok=false)\/(S.bad=false/\ok=true/\∃ f,S.files f=none/\S'=((S.called true).withFile f Ja).named ⟨nm,[],[],some f⟩)
def Tt(nm:Str)(b:List UInt8):DStep:=if b=[] then Tv nm else Tu [Tv nm,jdh nm b]
def jw:Str:=[109,97,110,105,102,101,115,116]
def xx:Str:=[109,97,110,105,102,101,115,116,46,116,109,112]
theorem Fit.jf6{S S':jh}{ok:Bool}(h:Fit k S)(r:jdh nm b S S' ok):Fit (k+b.length) S':=by
 obtain⟨f,a,d,c,⟨_,rfl,_⟩|⟨_,_,rfl,_⟩⟩:=r
 ·exact((h.called true).put (n:=nm) d c _).mono (by rw[ZT];omega)
 ·exact(h.called true).put (n:=nm) d c _
theorem Fit.jeo{S S':jh}{ok:Bool}(h:Fit k S)(b:nm≠[])(r:Tv nm S S' ok):Fit (k+1+nm.length) S':=by
 obtain⟨_,rfl,_⟩|⟨_,_,f,c,rfl⟩:=r
 ·exact(h.called true).mono (by omega)
 ·exact(h.called true).create c b
theorem Fit.jgx{S S':jh}{ok:Bool}(h:Fit k S)(c:nm≠[])(r:Tt nm b S S' ok):Fit (k+1+nm.length+b.length) S':=by
 unfold Tt at r
 split at r
 ·exact(h.jeo c r).mono (by omega)
 ·obtain⟨r,_⟩|⟨l,i,g⟩:=r
  ·exact(h.jeo c r).mono (by omega)
  ·have d:=h.jeo c i
   obtain⟨r,_⟩|⟨j,f,rfl,_⟩:=g
   ·exact d.jf6 r
   ·exact d.jf6 f
structure Jl(S:jh):Prop where
 fail:S.fail = -1
 cut:S.cut = -1
theorem Jl.bad{S:jh}(h:Jl S):S.bad=false:=by simp[jh.bad,h.fail,h.cut]
theorem Jl.called{S:jh}(h:Jl S)(b:Bool):Jl (S.called b):=⟨by simp[jh.called,h.fail],by simp[jh.called,h.cut]⟩
theorem Jl.A8{S S':jh}(h:Jl S)(c:S'.fail=S.fail)(b:S'.cut=S.cut):Jl S':=⟨c.trans h.fail,b.trans h.cut⟩
theorem Jl.new:Jl jh.new:=⟨rfl,rfl⟩
theorem Jl.sync{S:jh}(h:Jl S)(d:View S V)(i:(n,b)∈V):(S.Qb n).2=true/\Jl (S.Qb n).1/\View (S.Qb n).1 V:=by
 obtain⟨f,a,g,c,_⟩:=d.get i
 have e:S.Qb n=((S.called true).withFile f a.synced,true):=by
  unfold jh.Qb;rw[if_neg (by rw[h.bad];decide),g];simp only[c]
 rw[e];exact⟨rfl,(h.called true).A8 rfl rfl,(d.called true).synced (n:=n) g c⟩
theorem Jl.dir{S:jh}(h:Jl S)(b:View S V):S.mr.2=true/\Jl S.mr.1/\View S.mr.1 V/\S.mr.1.late=[]:=by
 unfold jh.mr;rw[if_neg (by rw[h.bad];decide)];exact⟨rfl,(h.called true).A8 rfl rfl,b.A8 rfl rfl,rfl⟩
theorem Jl.sure{S:jh}(h:Jl S)(d:View S V)(ns:List Str)(c:∀ n∈ns,∃ b,(n,b)∈V):(jh.X8 ns S).2=true/\Jl (jh.X8 ns S).1/\View (jh.X8 ns S).1 V/\(jh.X8 ns S).1.late=[]:=by
 induction ns generalizing S with
 | nil=>exact h.dir d
 | cons n r ih =>
  obtain⟨b,f⟩:=c n xJ;obtain⟨j,i,g⟩:=h.sync d f;unfold jh.X8;rw[if_pos j];exact ih i g (fun x hx=>c x (xI _ hx))
theorem Jl.app{S S':jh}{ok:Bool}(h:Jl S)(j:View S V)(m:(nm,c)∈V)(k:b.length+j3 V<=20000)(r:jdh nm b S S' ok):ok=true/\Jl S'/\View S' (yc V nm (c++b)):=by
 obtain⟨f,a,l,o,⟨d,_,_⟩|⟨_,_,rfl,rfl⟩⟩:=r
 ·rcases d with d|d
  ·rw[h.bad] at d;cases d
  ·rw[j.total] at d;omega
 ·obtain⟨q,a',i,g,e⟩:=j.get m
  rw[l] at i;cases i;rw[o] at g;cases g;refine⟨rfl,(h.called true).A8 rfl rfl,?_⟩;have:=(j.called true).write (n:=nm) l (a.put b)
  have p:(a.put b).bytes=c++b:=by
   unfold ye.put
   split
   ·rename_i k;rw[e,k,ZC]
   ·rw[<-e]
  rwa [p] at this
theorem Jl.cre{S S':jh}{ok:Bool}(h:Jl S)(c:nm≠[])(g:View S V)(r:Tv nm S S' ok):ok=true/\Jl S'/\View S' (yc V nm []):=by
 obtain⟨b,_,_⟩|⟨_,rfl,f,d,rfl⟩:=r
 ·rw[h.bad] at b;cases b
 ·exact⟨rfl,(h.called true).A8 rfl rfl,(g.called true).create d c⟩
theorem uw(V:List (Str×α))(n:Str):jo (jo V n) n=jo V n:=by
 unfold jo;rw[yB];refine List.filter_congr (fun p _=>?_);rw[Bool.and_self]
theorem de(V:List (Str×α))(n:Str)(b:α):jo ((n,b)::V) n=jo V n:=by
 unfold jo;rw[XZ (by simp)]
theorem U1(V:List (Str×List UInt8))(n:Str)(b c:List UInt8):yc (yc V n b) n c=yc V n c:=by
 unfold yc;rw[de,uw]
theorem Jl.lay{S S':jh}{ok:Bool}(h:Jl S)(f:nm≠[])(g:View S V)(o:b.length+j3 (jo V nm)<=20000)(r:Tt nm b S S' ok):ok=true/\Jl S'/\View S' (yc V nm b):=by
 unfold Tt at r
 split at r
 ·rename_i e
  rw[e];exact h.cre f g r
 ·obtain⟨r,_⟩|⟨q,m,l⟩:=r
  ·obtain⟨e,_⟩:=h.cre f g r
   cases e
  ·obtain⟨_,j,d⟩:=h.cre f g m
   have i:b.length+j3 (yc V nm [])<=20000:=by
    unfold yc;rw[y7];show b.length+(0+j3 (jo V nm))<=20000;omega
   obtain⟨r,_⟩|⟨p,k,rfl,rfl⟩:=l
   ·obtain⟨e,_⟩:=j.app d xJ i r
    cases e
   ·obtain⟨_,n,c⟩:=j.app d xJ i k
    refine⟨rfl,n,?_⟩;rw[U1,xZ] at c;exact c
theorem Jl.rename{S:jh}(h:Jl S)(c:ds≠[])(g:ds≠sr)(i:View S V)(k:(sr,b)∈V) :
 (Qr (S.Jw sr ds)).2=true/\Jl (Qr (S.Jw sr ds)).1/\View (Qr (S.Jw sr ds)).1 (yc (jo V sr) ds b)/\(Qr (S.Jw sr ds)).1.late=[]:=by
 obtain⟨f,a,j,l,e⟩:=i.get k
 have n:S.Jw sr ds=((S.called true).named ⟨[],sr,ds,some f⟩,true):=by
  unfold jh.Jw;rw[if_neg (by rw[h.bad];decide),j];simp only[c,if_false]
 have d:=(i.called true).renamed c g (sr:=sr) j l;rw[e] at d;unfold Qr;rw[n];have m:Jl ((S.called true).named ⟨[],sr,ds,some f⟩):=(h.called true).A8 rfl rfl;exact m.dir d
theorem Jl.remove{S:jh}(h:Jl S)(c:View S V)(d:(n,b)∈V):(S.yn n).2=true/\Jl (S.yn n).1/\View (S.yn n).1 (jo V n):=by
 obtain⟨f,a,g,j,e⟩:=c.get d
 have i:S.yn n=((S.called true).named ⟨[],n,[],none⟩,true):=by
  unfold jh.yn;rw[if_neg (by rw[h.bad];decide),g]
 rw[i];exact⟨rfl,(h.called true).A8 rfl rfl,(c.called true).C5 n⟩
theorem Jl.jdx{S:jh}(h:Jl S)(f:View S V)(ns:List Str)(g:ns.Nodup)(d:∀ n∈ns,∃ b,(n,b)∈V) :
 (jh.zy ns S).2=true/\Jl (jh.zy ns S).1/\View (jh.zy ns S).1 (V.filter (fun p=>decide (p.1∉ns))):=by
 induction ns generalizing S V with
 | nil =>
  refine⟨rfl,h,?_⟩;rw[yA.2 (fun p _=>by simp)];exact f
 | cons n r ih =>
  obtain⟨b,j⟩:=d n xJ;obtain⟨m,l,k⟩:=h.remove f j;obtain⟨v,u⟩:=XB.1 g;unfold jh.zy;rw[if_pos m]
  obtain⟨s,q,o⟩:=ih l k u (fun x hx=>by
   obtain⟨c,i⟩:=d x (xI _ hx)
   exact⟨c,xf.2 ⟨i,fun e=>v (by have t:x=n:=e;rw[<-t];exact hx)⟩⟩)
  refine⟨s,q,?_⟩
  have e:(jo V n).filter (fun p=>decide (p.1∉r))=V.filter (fun p=>decide (p.1∉n::r)):=by
   unfold jo;rw[yB];refine List.filter_congr (fun p _=>?_);rw[Bool.eq_iff_iff];simp only[XR,decide_eq_true_eq,zH,not_or];exact And.comm
  rwa [e] at o
theorem Jl.removeAll{S:jh}(h:Jl S)(c:View S V)(ns:List Str)(f:ns.Nodup)(d:∀ n∈ns,∃ b,(n,b)∈V) :
 (jh.yo ns S).2=true/\Jl (jh.yo ns S).1/\View (jh.yo ns S).1 (V.filter (fun p=>decide (p.1∉ns)))/\(S.late=[]->(jh.yo ns S).1.late=[]):=by
 unfold jh.yo
 split
 ·rename_i e
  refine⟨rfl,h,?_,fun e=>e⟩;rw[e,yA.2 (fun p _=>by simp)];exact c
 ·obtain⟨j,i,g⟩:=h.jdx c ns f d
  unfold Qr;rw[if_pos j];obtain⟨o,m,l,k⟩:=i.dir g;exact⟨o,m,l,fun _=>k⟩
theorem View.V8{S:jh}(h:View S V):S.keys.Nodup:=by
 refine(h.keys.nodup_iff).2 ?_;unfold List.Nodup;rw[XW];exact h.apart
theorem Jl.clear{S:jh}(h:Jl S)(d:View S V)(ks:List Str) :
 (jh.Yp ks S).2=true/\Jl (jh.Yp ks S).1/\View (jh.Yp ks S).1 (V.filter (fun p=>decide (p.1∈ks)))/\(S.late=[]->(jh.Yp ks S).1.late=[]):=by
 unfold jh.Yp;rw[if_neg (by rw[h.bad];decide)]
 have c:∀ n∈S.keys,∃ b,(n,b)∈V:=fun n hn=>by
  obtain⟨p,f,e⟩:=ZN.1 (d.keys.mem_iff.1 hn);exact⟨p.2,by rw[<-e];exact f⟩
 have g:=Jl.removeAll (h.called false) (d.called false) (others ks S.keys) (d.V8.sublist XV) (fun n hn=>c n (List.mem_filter.1 hn).1)
 have e:V.filter (fun p=>decide (p.1∉others ks S.keys))=V.filter (fun p=>decide (p.1∈ks)):=by
  refine List.filter_congr (fun p f=>?_);have i:p.1∈S.keys:=d.keys.mem_iff.2 (ZN.2 ⟨p,f,rfl⟩);rw[Bool.eq_iff_iff];simp[others,i]
 rwa [e] at g
end Go.Proofs.YtnipbplghijdmaaGreatDoor
namespace Go.Proofs.YtnipbplghijdmaaGreatDoor
open RowKit Maps WideShapes Go.Proofs.Tryz
def jgo(E:Nat->Addr)(B:Nat)(w:World)(ρ:Nat->jz)(d:Nat)(S:jh)(R:DStep)(e:Ending)(w':World):Prop:=∃ S' ok,R S S' ok/\eu E B w ρ d (S',ok) e w'
def Off(ρ:Nat->jz)(v:Value):Prop:=∀ p n c,v = .slice (some p) n c->ρ p.block = .none
theorem jee{E:Nat->Addr}{B:Nat}{w:World}{ρ:Nat->jz}{d k:Nat}{S:jh}(D:Dk E B w ρ d S)(F:Fit k S)(nm:Str)(Y:nm≠[])(v:Value)(b:List UInt8)(X:Bytes w v b)(q:Off ρ v)(hk:k+1+nm.length+b.length<549755813888) :
 Calls prog 114 #[.pointer (some ⟨d,0,none⟩),jd nm,v] w (jgo E B w ρ d S (Tt nm b)):=by
 have Z:Small S:=F.small (by omega);have C:nm.length<1099511627776:=by omega
 obtain⟨p,c,rfl,az,ab,aa,a9⟩:=id X;have g:∀ S' ok,Tt nm b S S' ok=(if b=[] then Tv nm else Tu [Tv nm,jdh nm b]) S S' ok:=fun _ _=>rfl;obtain⟨R0,H⟩:∃ R0,R0=Tt nm b:=⟨_,rfl⟩;rw[<-H] at g ⊢;have R:=jb g;have HV:=jb X;clear g H aa a9 X;go_enter func114,ntmps114;go_wp2_with fail;refine(Th nm D.rep Z C).mono ?_;rintro e w1 ⟨L,o,⟨y,rfl,O⟩|⟨y,hA,rfl,O⟩|⟨y,hA,rfl,f,hf,O⟩⟩
 ·have r:=D.step o O
  go_wp2_with fail;refine(Jn r.Qh nm 1 (by decide)).mono ?_;rintro e W ⟨v2,rfl,M,k2⟩;obtain⟨t,a,rfl⟩:=M.shape;go_wp2;go_ret;refine⟨S.called true,false,?_,L,o.same k2,r.same k2,.inr ⟨rfl,_,rfl,M⟩⟩;rw[R.out]
  split
  ·exact .inl ⟨y,rfl,rfl⟩
  ·exact .inl ⟨.inl ⟨y,rfl,rfl⟩,rfl⟩
 ·exact absurd hA Y
 ·have r:=D.step o O
  have i:Tv nm S (((S.called true).withFile f Ja).named ⟨nm,[],[],some f⟩) true:= .inr ⟨y,rfl,f,hf,rfl⟩;have F1:=F.jeo Y i
  have G:(((S.called true).withFile f Ja).named ⟨nm,[],[],some f⟩).at nm=some f:=by
   obtain⟨V,hV⟩:=F.view;have hU:=(hV.called true).create hf Y;obtain⟨f',a',h1,h2,h3⟩:=hU.get (n:=nm) (b:=[]) xJ;have a8:nm.isEmpty=false:=by cases nm<;>simp_all
   unfold jh.at
   simp only[jh.named,doA,a8,if_true,ov];rw[atKey_put_same (k:= .string nm) ?_ (by trivial)]
   ·rfl
   ·obtain⟨T,⟨⟨es,e,_⟩,_⟩,_⟩:=F.fs
    exact⟨es,e⟩
  have l:(((S.called true).withFile f Ja).named ⟨nm,[],[],some f⟩).files f=some Ja:=by simp[jh.named,jh.withFile]
  generalize hS1:((S.called true).withFile f Ja).named ⟨nm,[],[],some f⟩=S1 at *
  have HA:=jb G;have HF:=jb l;have HC:=jb i;clear hS1 G l i;go_wp2_with fail;refine(Q5 nm w1).mono ?_;rintro e W ⟨rfl,rfl⟩;by_cases hb0:b=[]
  ·subst hb0
   go_wp2;go_ret;refine⟨S1,true,?_,L,o,r,.inl ⟨rfl,rfl⟩⟩;rw[R.out];exact HC.out
  ·have I:0<b.length:=XY.2 hb0
   have an:((b.length:Int)==0)=false:=by simp;omega
   obtain⟨m,rfl⟩:∃ m,p=some m:=by
    cases p with
    | some m=>exact⟨m,rfl⟩
    | none =>
     obtain⟨p',c',e,h1,h2,h3,h4⟩:=HV.out;cases e;have:=h3 rfl;omega
   have z:Bytes W (.slice (some m) b.length c) b:=HV.out.keep o.keeps (fun p n c' e h=>by cases e;exact h (q _ _ _ rfl));have a7:L m.block = .none:=(o.role _ (HV.out.lt hb0)).trans (q _ _ _ rfl)
   have J:Arg W L (.slice (some m) b.length c) b:=by
    obtain⟨p',c',e,h1,h2,h3,h4⟩:=z;cases e
    exact .inr ⟨m,c,rfl,h1,a7,fun j u hu=>by
     rw[zJ] at hu
     obtain⟨x,s,rfl⟩:=xF.1 hu
     exact(h4 m rfl).2 j x s⟩
   have Z1:Small S1:=F1.small (by omega);have A:total S1.files S1.names<1099511627776:=by have:=F1.total;omega
   have HT:=jb A;clear A z;go_wp2_with fail;refine(Ce nm b m c r.rep Z1 C HA.out HF.out I (by omega) J (by omega) ab HT.out).mono ?_;rintro e w3 ⟨ρ3,N,⟨s,rfl,R3⟩|⟨s,hy,rfl,R3⟩⟩
   ·have U:=r.step N R3
    go_wp2_with fail;refine(Jn U.Qh nm 1 (by decide)).mono ?_;rintro e w4 ⟨v4,rfl,M,k4⟩;go_wp2;go_ret;refine⟨_,false,?_,ρ3,(o.trans N).same k4,U.same k4,.inr ⟨rfl,v4,rfl,M⟩⟩;rw[R.out,if_neg hb0];exact .inr ⟨S1,HC.out,.inl ⟨⟨f,Ja,HA.out,HF.out,.inl ⟨s,rfl,rfl⟩⟩,rfl⟩⟩
   ·have U:=r.step N R3
    go_wp2_with fail;refine(Q5 nm w3).mono ?_;rintro e w4 ⟨rfl,rfl⟩;go_wp2;go_ret;refine⟨_,true,?_,ρ3,o.trans N,U,.inl ⟨rfl,rfl⟩⟩;rw[R.out,if_neg hb0];exact .inr ⟨S1,HC.out,.inr ⟨_,⟨f,Ja,HA.out,HF.out,.inr ⟨s,hy,rfl,rfl⟩⟩,rfl,rfl⟩⟩
end Go.Proofs.YtnipbplghijdmaaGreatDoor
