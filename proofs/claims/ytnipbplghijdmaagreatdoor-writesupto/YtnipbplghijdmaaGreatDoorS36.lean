/-
  S: REntry RMan RLog RRun.
-/
import Derived.Deep.RegionHeld
import Derived.Deep.CutBlock
import Derived.Test.YtnipbplghijdmaaGreatDoorS35
set_option maxRecDepth 100000
set_option maxHeartbeats 8000000
set_option linter.unusedVariables false
set_option linter.unusedSimpArgs false
namespace Go.Proofs.YtnipbplghijdmaaGreatDoor
open RowKit Maps WideShapes Go.Proofs.Tryz
variable {w:World} {y:Nat} {s:Rf.St} {bv lv rv xv:Value}
theorem Fe(c:Rf.Ch)(A:c.key.length<100000000)(z:c.value.length<100000000)(w:World) :
 Calls prog 136 #[chV c] w fun e w'=>e = .returned (jd (Rf.entry c))/\ja w w' (fun _=>False):=by
 obtain⟨b,cv,m⟩:=c;simp only at A z ⊢;have l:Hid (∀ W,Calls prog 148 #[jd b] W fun e w'=>e = .returned (jd (Rf.text b))/\ja W w' (fun _=>False)):=fun W=>Av b (by omega) W;have s:Hid (∀ W,Calls prog 148 #[jd cv] W fun e w'=>e = .returned (jd (Rf.text cv))/\ja W w' (fun _=>False)):=fun W=>Av cv (by omega) W;have C:(Rf.text b).length<100000010:=by unfold Rf.text;rw[ZY,Rf.ji];omega
 have B:(Rf.text cv).length<100000010:=by unfold Rf.text;rw[ZY,Rf.ji];omega
 have u:Hid (Rf.entry ⟨b,cv,m⟩=if m=true then 2::Rf.text b else 1::(Rf.text b++Rf.text cv)):=(show _=_ from rfl);generalize Rf.text b=X at l C u;generalize Rf.text cv=Y at s B u;obtain⟨j,g⟩:∃ j,j=w.alloc (.cells #[jd b,jd cv,.bool m] 88):=⟨_,rfl⟩;obtain⟨n,k⟩:∃ n,n=w.heap.size:=⟨_,rfl⟩;have y:ja w j (fun _=>False):=by rw[g];exact ja.alloc _ _ _
 have i:j.heap[n]?=some (.cells #[jd b,jd cv,.bool m] 88 (0,0)):=by rw[g,k];exact je _ _
 have q:=zA (o:=0) i;have p:=zA (o:=1) i;have E:=zA (o:=2) i;simp at q p E;have r:=jb g;have t:=jb k;clear g k i A z
 cases m with
 | true =>
  have D:=yb [2] X;go_enter func136,ntmps136
  go_upto_region 1 with fail
  rw[<-r.out,<-t.out];go_wp2_with fail;refine(l.out _).mono ?_;rintro e x ⟨rfl,d⟩;go_wp2;go_ret;exact⟨by rw[u.out];first|rfl|simp,y.tt d⟩
 | false =>
  have D:=yb [1] X;have H:=yb (1::X) Y;have G:=yb ([1]++X) Y;have F:(1::X).length<100000020:=by rw[zX];omega
  go_enter func136,ntmps136
  go_upto_region 1 with fail
  rw[<-r.out,<-t.out];go_wp2_with fail
  go_region_held (fun W=>W.cell? ⟨n,0,none⟩=some (jd b)/\W.cell? ⟨n,1,none⟩=some (jd cv)/\ja j W (fun _=>False)) (first|exact⟨q,p,v⟩|exact⟨q,p,ja.drew _ _⟩)
   (first
    | (go_at_call 148;refine(l.out _).mono ?_;rintro e x ⟨rfl,d⟩;have f:=‹_/\_/\ja j _ (fun _=>False)›;have q:=d.cell f.1 id;have p:=d.cell f.2.1 id;have v:=f.2.2.tt d;clear f)
    | (go_at_call 148;refine(s.out _).mono ?_;rintro e x ⟨rfl,d⟩;have f:=‹_/\_/\ja j _ (fun _=>False)›;have q:=d.cell f.1 id;have p:=d.cell f.2.1 id;have v:=f.2.2.tt d;clear f))
  all_goals
   go_wp2;go_ret;exact⟨by rw[u.out];first|rfl|simp,y.tt v⟩
theorem RAt.bounds{cl:Bool}(h:RAt w y s cl bv lv rv xv):s.m.next<=2000000000/\s.m.last<=1000000000/\s.m.log<2000000000/\s.m.base<=2000000000/\(∀ r∈s.m.runs,r<2000000000)/\s.m.runs.length<1000000:=by
 obtain⟨j,i,d,l⟩:=h.ok.Je
 have c:∀ r∈s.m.runs,r∈s.m.numbers:=fun r c=>by
  unfold Rf.Man.numbers Rf.Man.settled
  split
  ·exact ZD.2 (.inl c)
  ·exact ZD.2 (.inl (ZD.2 (.inl c)))
 have f:s.m.log∈s.m.numbers:=ZD.2 (.inr (ZE.2 rfl))
 have g:s.m.base=0\/s.m.base∈s.m.numbers:=by
  unfold Rf.Man.numbers Rf.Man.settled;by_cases b:s.m.base=0
  ·exact .inl b
  ·rw[if_neg b]
   exact .inr (ZD.2 (.inl (ZD.2 (.inr (ZE.2 rfl)))))
 have k:=h.ok.runs;refine⟨j,i,by have:=(d _ f).2;omega,?_,fun r hm=>by have:=(d _ (c r hm)).2;omega,by omega⟩;rcases g with b|b
 ·omega
 ·have:=(d _ b).2;omega
theorem ja5{cl:Bool}(R:RAt w y s cl bv lv rv xv) :
 Calls prog 99 #[.pointer (some ⟨y,0,none⟩)] w fun e w'=>e = .returned (jd s.m.bytes)/\ja w w' (fun _=>False):=by
 obtain⟨n1,n2,n3,n4,n5,n6⟩:=R.bounds;have F:=zA (o:=0) R.row;have E:=zA (o:=1) R.row;have D:=zA (o:=2) R.row;have C:=zA (o:=3) R.row;have b:=zA (o:=6) R.row;simp at F E D C b;have x:=R.run;obtain⟨p0,c0,rfl⟩:∃ p c,rv = .slice p s.m.runs.length c:=by obtain⟨p,c,e,_⟩:=x;exact⟨p,c,e⟩
 have af:=jb x;have A:Hid (s.m.bytes=Rf.frame (Rf.big s.m.next 8++Rf.big s.m.last 8++Rf.big s.m.log 8++Rf.big s.m.base 8++Rf.big s.m.runs.length 2++s.m.runs.flatMap fun r=>Rf.big r 8)):=(show _=_ from rfl);have S:Hid (∀ W,Calls prog 135 #[.int .i64 s.m.next,.int .i64 8] W fun e w'=>e = .returned (jd (Rf.big s.m.next 8))/\ja W w' (fun _=>False)):=fun W=>Jr s.m.next 8 (by omega) (by omega) W;have O:Hid (∀ W,Calls prog 135 #[.int .i64 s.m.last,.int .i64 8] W fun e w'=>e = .returned (jd (Rf.big s.m.last 8))/\ja W w' (fun _=>False)):=fun W=>Jr s.m.last 8 (by omega) (by omega) W;have N:Hid (∀ W,Calls prog 135 #[.int .i64 s.m.log,.int .i64 8] W fun e w'=>e = .returned (jd (Rf.big s.m.log 8))/\ja W w' (fun _=>False)):=fun W=>Jr s.m.log 8 (by omega) (by omega) W;have M:Hid (∀ W,Calls prog 135 #[.int .i64 s.m.base,.int .i64 8] W fun e w'=>e = .returned (jd (Rf.big s.m.base 8))/\ja W w' (fun _=>False)):=fun W=>Jr s.m.base 8 (by omega) (by omega) W;have J:Hid (∀ W,Calls prog 135 #[.int .i64 s.m.runs.length,.int .i64 2] W fun e w'=>e = .returned (jd (Rf.big s.m.runs.length 2))/\ja W w' (fun _=>False)):=fun W=>Jr s.m.runs.length 2 (by omega) (by omega) W;have ag:Hid (∀ r∈s.m.runs,r<2000000000):=n5;have b1:(Rf.big s.m.next 8).length<=8:=by rw[Rf.ji];omega
 have b2:(Rf.big s.m.last 8).length<=8:=by rw[Rf.ji];omega
 have b3:(Rf.big s.m.log 8).length<=8:=by rw[Rf.ji];omega
 have b4:(Rf.big s.m.base 8).length<=8:=by rw[Rf.ji];omega
 have b5:(Rf.big s.m.runs.length 2).length<=2:=by rw[Rf.ji];omega
 clear x R n5;generalize s.m.bytes=BT at A ⊢;generalize Rf.big s.m.next 8=X1 at *
 generalize Rf.big s.m.last 8=X2 at *
 generalize Rf.big s.m.log 8=X3 at *
 generalize Rf.big s.m.base 8=X4 at *
 generalize Rf.big s.m.runs.length 2=X5 at *
 generalize s.m.next=nx at *
 generalize s.m.last=la at *
 generalize s.m.log=lo at *
 generalize s.m.base=ba at *
 generalize s.m.runs=runs at *
 obtain⟨n,hn⟩:∃ n,n=runs.length:=⟨_,rfl⟩;rw[<-hn] at b J n6;have HN:=jb hn;obtain⟨V1,q⟩:∃ V,V=Value.int .i64 (nx:Int):=⟨_,rfl⟩;obtain⟨V2,k⟩:∃ V,V=Value.int .i64 (la:Int):=⟨_,rfl⟩;obtain⟨V3,j⟩:∃ V,V=Value.int .i64 (lo:Int):=⟨_,rfl⟩;obtain⟨V4,f⟩:∃ V,V=Value.int .i64 (ba:Int):=⟨_,rfl⟩;have F:w.cell? ⟨y,0,none⟩=some V1:=by rw[q];exact F
 have E:w.cell? ⟨y,1,none⟩=some V2:=by rw[k];exact E
 have D:w.cell? ⟨y,2,none⟩=some V3:=by rw[j];exact D
 have C:w.cell? ⟨y,3,none⟩=some V4:=by rw[f];exact C
 rw[<-q] at S;rw[<-k] at O;rw[<-j] at N;rw[<-f] at M;have bd:V1.oneCell'=true:=by rw[q];rfl
 have bc:V2.oneCell'=true:=by rw[k];rfl
 have bb:V3.oneCell'=true:=by rw[j];rfl
 have b9:V4.oneCell'=true:=by rw[f];rfl
 clear q k j f;have c1:=yb X1 X2;have c2:=yb (X1++X2) X3;have c3:=yb (X1++X2++X3) X4;have c4:=yb (X1++X2++X3++X4) X5;have ae:(X1++X2).length<=16:=by rw[ZY];omega
 have ad:(X1++X2++X3).length<=24:=by rw[ZY];omega
 have ac:(X1++X2++X3++X4).length<=32:=by rw[ZY];omega
 have ab:(X1++X2++X3++X4++X5).length<=34:=by rw[ZY];omega
 clear hn;go_enter func99,ntmps99;go_wp2_with fail
 go_cut [3] from 5 (fun s3 wd=>s3=jd (X1++X2++X3++X4++X5)/\ja w wd (fun _=>False))
 case first =>
  go_region_held (fun W=>W.cell? ⟨y,0,none⟩=some V1/\W.cell? ⟨y,1,none⟩=some V2/\W.cell? ⟨y,2,none⟩=some V3/\W.cell? ⟨y,3,none⟩=some V4/\W.cell? ⟨y,6,none⟩=some (.slice p0 n c0)/\ja w W (fun _=>False)) (first|exact⟨F,E,D,C,b,kq⟩|exact⟨F,E,D,C,b,ja.drew _ _⟩)
   (first|(go_at_call 135;(first|(with_reducible refine(S.out _).mono ?_)|(with_reducible refine(O.out _).mono ?_)|(with_reducible refine(N.out _).mono ?_)|(with_reducible refine(M.out _).mono ?_)|(with_reducible refine(J.out _).mono ?_));rintro e w2 ⟨rfl,G⟩;have v:=‹_/\_/\_/\_/\_/\ja w _ (fun _=>False)›;have F:=G.cell v.1 id;have E:=G.cell v.2.1 id;have D:=G.cell v.2.2.1 id;have C:=G.cell v.2.2.2.1 id;have b:=G.cell v.2.2.2.2.1 id;have kq:=v.2.2.2.2.2.tt G;clear v))
  all_goals
   go_wp2;go_meet
  all_goals exact⟨by simp only[yb,ZK],kq⟩
 case rest =>
  obtain⟨rfl,U⟩:=hcut;generalize X1++X2++X3++X4++X5=X at ab A;have b:=U.cell b id;clear c1 c2 c3 c4 ae ad ac b1 b2 b3 b4 b5;go_wp2_with fail
  go_loopw [3,4] (fun t3 t4 wr=>∃ i:Nat,t4 = .int .i64 i/\i<=n/\t3=jd (X++(runs.take i).flatMap fun r=>Rf.big r 8)/\ja wc wr (fun _=>False)) (fun _ t4 _=>n-(intOf t4).toNat)
  case atStart=>exact⟨0,rfl,zU _,by simp,ja.refl _ _⟩
  case round =>
   obtain⟨i,rfl,be,rfl,T⟩:=hrel;have b:=T.cell b id
   have u:((runs.take i).flatMap fun r=>Rf.big r 8).length<=8*i:=by
    have H:∀ l:List Nat,(l.flatMap fun r=>Rf.big r 8).length=8*l.length:=by
     intro l
     induction l with
     | nil=>rfl
     | cons a t ih=>rw[xL,ZY,ih,Rf.ji,zX];omega
    rw[H];have:=ZW i runs;omega
   rcases ZJ i n with a8|aa
   ·have a9:(i:Int)<(n:Int):=by omega
    have b8:IntKind.i64.wrap ((i:Int)+1)=(i:Int)+1:=zE (by omega) (by omega);have d:i<runs.length:=by rw[<-HN.out];exact a8
    obtain⟨g,og,rfl,a0⟩:=(((af.out.same U).same T)).at d;have a7:=ag.out _ (zV d);have B:Hid (∀ W,Calls prog 135 #[.int .i64 (runs[i]:Nat),.int .i64 8] W fun e w'=>e = .returned (jd (Rf.big runs[i] 8))/\ja W w' (fun _=>False)):=fun W=>Jr runs[i] 8 (by omega) (by omega) W
    have z:Hid (X++(runs.take (i+1)).flatMap (fun r=>Rf.big r 8)=(X++(runs.take i).flatMap fun r=>Rf.big r 8)++Rf.big runs[i] 8):=(show _=_ from by
     rw[zY,zL d,zZ,xM,ZK]
     simp)
    have b6:(Rf.big runs[i] 8).length<=8:=by rw[Rf.ji];omega
    have hL:(X++(runs.take i).flatMap fun r=>Rf.big r 8).length<=34+8*i:=by rw[ZY];omega
    generalize (X++(runs.take i).flatMap fun r=>Rf.big r 8)=L at z hL ⊢;generalize Rf.big runs[i] 8=Z at B z b6;generalize runs[i]=r at a0 B a7;have c5:=yb L Z;clear u d;go_wp2_with fail;refine(B.out _).mono ?_;rintro e w3 ⟨rfl,Y⟩;go_wp2;exact⟨⟨i+1,by simp,by omega,by rw[z.out],T.tt Y⟩,by simp[intOf];omega⟩
   ·have a9:¬(i:Int)<(n:Int):=by omega
    have I:Hid (BT=Rf.frame (X++(runs.take i).flatMap fun r=>Rf.big r 8)):=(show _=_ from by rw[A.out,ZO (by rw[<-HN.out];exact aa)]);have hL:(X++(runs.take i).flatMap fun r=>Rf.big r 8).length<=34+8*i:=by rw[ZY];omega
    generalize (X++(runs.take i).flatMap fun r=>Rf.big r 8)=L at I hL ⊢;have ah:Hid (∀ W,Calls prog 137 #[jd L] W fun e w'=>e = .returned (jd (Rf.frame L))/\ja W w' (fun _=>False)):=fun W=>iz L (by omega) W;clear u;go_wp2_with fail;refine(ah.out _).mono ?_;rintro e w3 ⟨rfl,Y⟩;go_wp2;go_ret;exact⟨by rw[I.out];rfl,(U.tt T).tt Y⟩
theorem jea{last:Nat}{bs:List (List Rf.Ch)}(h:∀ b∈bs,Rf.qy b=true):(Rf.jl last bs).length<=500*bs.length:=by
 induction bs generalizing last with
 | nil=>simp[Rf.jl]
 | cons b r ih =>
  have e:Rf.jl last (b::r)=Rf.jt (last+1) b++Rf.jl (last+1) r:=by simp[Rf.jl,Rf.jt]
  have f:=ih (last:=last+1) (fun x hx=>h x (xI _ hx));have c:=(Rf.yd b).1 (h b xJ);have d:=Rf.Jf c.2.2;rw[e,ZY,zX];unfold Rf.jt Rf.frame;simp only[ZY,Rf.ji];omega
theorem jbp{b:List Rf.Ch}(h:Rf.qy b=true):b.length<=8/\∀ c∈b,c.key.length<=16/\c.value.length<=40:=by
 have d:=(Rf.yd b).1 h;exact⟨d.2.1,fun c hc=>by have:=(Rf.xz c).1 (d.2.2 c hc);omega⟩
theorem Nt{cl:Bool}(R:RAt w y s cl bv lv rv xv) :
 Calls prog 91 #[.pointer (some ⟨y,0,none⟩)] w fun e w'=>e = .returned (jd (Rf.jl s.m.last s.bs))/\ja w w' (fun _=>False):=by
 have E:=R.ok.cap;have D:=R.ok.log;have a5:=R.few;unfold Rf.St.last at E;have N:=zA (o:=1) R.row;have B:=zA (o:=4) R.row;simp at N B;have p:=R.bat;obtain⟨p0,c0,rfl⟩:=p.shape;generalize s.m.last=la at *
 generalize s.bs=bs at *
 obtain⟨n,hn⟩:∃ n,n=bs.length:=⟨_,rfl⟩;rw[<-hn] at B E;have be:n<1000000:=by omega
 have a6:=jb p;have HN:=jb hn;have a1:=jb D;clear p hn D a5 R;go_enter func91,ntmps91;go_wp2_with fail
 go_loopw [3,4,5,6] (fun t3 t4 _ _ wr=>∃ i:Nat,t4 = .int .i64 i/\i<=n/\t3=jd (Rf.jl la (bs.take i))/\ja w wr (fun _=>False)) (fun _ t4 _ _ _=>n-(intOf t4).toNat)
 case atStart=>exact⟨0,rfl,zU _,rfl,ja.refl _ _⟩
 case round =>
  obtain⟨i,rfl,bg,rfl,S⟩:=hrel;have N:=S.cell N id;have B:=S.cell B id;have r:=jea (last:=la) (bs:=bs.take i) (fun b hb=>a1.out b (ZH hb));have U:=ZW i bs;rcases ZJ i n with ag|aj
  ·have ai:(i:Int)<(n:Int):=by omega
   have bd:IntKind.i64.wrap ((i:Int)+1)=(i:Int)+1:=zE (by omega) (by omega);have v:i<bs.length:=by rw[<-HN.out];exact ag
   obtain⟨g,og,x,rfl,O,hx⟩:=(a6.out.same S).at v;obtain⟨px,cx,rfl⟩:=hx.shape;have q:=jbp (a1.out _ (zV v))
   have d:Hid (Rf.jl la (bs.take (i+1))=Rf.jl la (bs.take i)++Rf.frame (Rf.big (la+i+1) 8++Rf.big bs[i].length 1++bs[i].flatMap Rf.entry)):=(show _=_ from by
    rw[zY,zL v,zZ,Rf.fq,ZT,XI (by omega)]
    rfl)
   generalize Rf.jl la (bs.take i)=L at d r ⊢;generalize bs[i]=b at O hx q d
   have J:Hid (∀ W,Calls prog 135 #[.int .i64 ((la:Int)+(i:Int)+1),.int .i64 8] W fun e w'=>e = .returned (jd (Rf.big (la+i+1) 8))/\ja W w' (fun _=>False)):=fun W=>by
    have:=Jr (la+i+1) 8 (by omega) (by omega) W;simpa using this
   have A:Hid (∀ W,Calls prog 135 #[.int .i64 b.length,.int .i64 1] W fun e w'=>e = .returned (jd (Rf.big b.length 1))/\ja W w' (fun _=>False)):=fun W=>Jr b.length 1 (by omega) (by omega) W;have b1:(Rf.big (la+i+1) 8).length<=8:=by rw[Rf.ji];omega
   have b2:(Rf.big b.length 1).length<=1:=by rw[Rf.ji];omega
   have af:IntKind.i64.wrap ((la:Int)+(i:Int))=(la:Int)+(i:Int):=zE (by omega) (by omega);have ae:IntKind.i64.wrap ((la:Int)+(i:Int)+1)=(la:Int)+(i:Int)+1:=zE (by omega) (by omega);generalize Rf.big (la+i+1) 8=X1 at J d b1;generalize Rf.big b.length 1=X2 at A d b2;have c1:=yb X1 X2;have HX:=jb hx;have Y:=jb q;have am:=q.1;obtain⟨C,F⟩:∃ C,C=b.length:=⟨_,rfl⟩;rw[<-F] at O A am;have a2:=jb F;have bh:L.length<=500000000:=by omega
   clear r U v hx q F;go_wp2_with fail
   go_cut [5] from 7 to 62 (fun s5 wd=>s5=jd (X1++X2)/\ja wr wd (fun _=>False))
   case first =>
    go_region_held (fun W=>W.cell? ⟨y,1,none⟩=some (jf la)/\W.cell? ⟨y,4,none⟩=some (.slice (some ⟨g,og,none⟩) n c0)/\W.cell? ⟨g,og+i,none⟩=some (.slice px C cx)/\ja wr W (fun _=>False)) (first|exact⟨N,B,O,kq⟩|exact⟨N,B,O,ja.drew _ _⟩)
     (first|(go_at_call 135;(first|(with_reducible refine(J.out _).mono ?_)|(with_reducible refine(A.out _).mono ?_));rintro e w2 ⟨rfl,k2⟩;have T:=‹_/\_/\_/\ja wr _ (fun _=>False)›;have N:=k2.cell T.1 id;have B:=k2.cell T.2.1 id;have O:=k2.cell T.2.2.1 id;have kq:=T.2.2.2.tt k2;clear T))
    all_goals
     go_wp2;go_meet
    all_goals exact⟨by simp only[yb],kq⟩
   case rest =>
    obtain⟨rfl,kc⟩:=hcut;have an:(X1++X2).length<=9:=by rw[ZY];omega
    generalize X1++X2=X at d an;have ad:=kc.cell B id;have ao:=kc.cell O id;clear c1 b1 b2 J A af ae;go_wp2_with fail
    go_loopw [5,6] (fun t5 t6 wr2=>∃ k:Nat,t6 = .int .i64 k/\k<=C/\t5=jd (X++(b.take k).flatMap Rf.entry)/\ja wc wr2 (fun _=>False)) (fun _ t6 _=>C-(intOf t6).toNat)
    case atStart=>exact⟨0,rfl,zU _,by simp,ja.refl _ _⟩
    case round =>
     obtain⟨k,rfl,bf,rfl,f⟩:=hrel;have ba:=f.cell ad id;have bi:=f.cell ao id
     have V:((b.take k).flatMap Rf.entry).length<=60*k:=by
      have H:∀ l:List Rf.Ch,(∀ c∈l,c.key.length<=16/\c.value.length<=40)->(l.flatMap Rf.entry).length<=60*l.length:=by
       intro l
       induction l with
       | nil=>intro _;simp
       | cons a t ih =>
        intro hl;have h1:=ih (fun c hc=>hl c (xI _ hc));have h2:=hl a xJ
        have h3:(Rf.entry a).length<=60:=by
         unfold Rf.entry
         split<;>simp[Rf.text,Rf.ji]<;>omega
        rw[xL,ZY,zX];omega
      have h1:=H (b.take k) (fun c hc=>Y.out.2 c (ZH hc));have h2:=ZW k b;omega
     rcases ZJ k C with hk|hk
     ·have ah:(k:Int)<(C:Int):=by omega
      have bc:IntKind.i64.wrap ((k:Int)+1)=(k:Int)+1:=zE (by omega) (by omega);have u:k<b.length:=by rw[<-a2.out];exact hk
      obtain⟨bb,bo,rfl,d0,d1,d2⟩:=(by have:=((HX.out.same kc).same f);exact this:Chs wr (.slice px b.length cx) b).at u;have al:=Y.out.2 _ (zV u)
      have I:Hid (X++(b.take (k+1)).flatMap Rf.entry=(X++(b.take k).flatMap Rf.entry)++Rf.entry b[k]):=(show _=_ from by
       rw[zY,zL u,zZ,xM,ZK]
       simp)
      have z:Hid (∀ W,Calls prog 136 #[chV b[k]] W fun e w'=>e = .returned (jd (Rf.entry b[k]))/\ja W w' (fun _=>False)):=fun W=>Fe b[k] (by omega) (by omega) W
      have ak:(Rf.entry b[k]).length<=60:=by
       unfold Rf.entry
       split<;>simp[Rf.text,Rf.ji]<;>omega
      have G:(X++(b.take k).flatMap Rf.entry).length<=600:=by rw[ZY];omega
      generalize X++(b.take k).flatMap Rf.entry=M at I G ⊢;generalize Rf.entry b[k]=EN at z I ak;generalize b[k]=c at d0 d1 d2 z;obtain⟨ck,cv,cg⟩:=c;simp only at d0 d1 d2 z;have c2:=yb M EN;clear V u al;go_wp2_with fail;refine(z.out _).mono ?_;rintro e w3 ⟨rfl,k3⟩;go_wp2;exact⟨⟨k+1,by simp,by omega,by rw[I.out],f.tt k3⟩,by simp[intOf];omega⟩
     ·have ah:¬(k:Int)<(C:Int):=by omega
      have G:(X++(b.take k).flatMap Rf.entry).length<=600:=by rw[ZY];omega
      have j:Hid (X++(b.take k).flatMap Rf.entry=X++b.flatMap Rf.entry):=(show _=_ from by rw[ZO (by rw[<-a2.out];exact hk)]);generalize X++(b.take k).flatMap Rf.entry=M at j G ⊢;have a3:Hid (∀ W,Calls prog 137 #[jd M] W fun e w'=>e = .returned (jd (Rf.frame M))/\ja W w' (fun _=>False)):=fun W=>iz M (by omega) W;have a4:(Rf.frame M).length<=700:=by unfold Rf.frame;simp only[ZY,Rf.ji];omega
      have Z:Hid (Rf.jl la (bs.take (i+1))=L++Rf.frame M):=(show _=_ from by rw[d.out,j.out]);generalize Rf.frame M=FM at a3 a4 Z;have c3:=yb L FM;clear V;go_wp2_with fail;refine(a3.out _).mono ?_;rintro e w3 ⟨rfl,k3⟩;go_wp2;exact⟨⟨i+1,by simp,by omega,by rw[Z.out],((S.tt kc).tt f).tt k3⟩,by simp[intOf];omega⟩
  ·have ai:¬(i:Int)<(n:Int):=by omega
   have j:Hid (Rf.jl la (bs.take i)=Rf.jl la bs):=(show _=_ from by rw[ZO (by rw[<-HN.out];exact aj)]);generalize Rf.jl la (bs.take i)=L at j r ⊢;clear r U;go_wp2;go_ret;exact⟨by rw[<-j.out];rfl,S⟩
theorem Pc{l:List Rf.Ch}{i:Nat}(h:i<l.length):Rf.zq ((l.drop i).take 4)=l[i].key:=by
 rw[ZP h];rfl
theorem E5(v:Value)(l:List Rf.Ch)(hv:Chs w v l)(hl:l.length<1000000)(hs:∀ c∈l,Rf.allowed c=true) :
 Calls prog 100 #[v] w fun e w'=>e = .returned (jd (Rf.jn l))/\ja w w' (fun _=>False):=by
 obtain⟨p0,c0,rfl⟩:=hv.shape;have HV:=jb hv;obtain⟨N,hN⟩:∃ n,n=l.length:=⟨_,rfl⟩;rw[<-hN] at hl HV ⊢;have x:=jb hN;have HS:=jb hs;clear hv hN hs;go_enter func100,ntmps100;go_wp2_with fail
 go_loopw [3,4,5,6,7,8,9] (fun t3 t4 t5 t6 _ _ _ wr=>∃(m I:Nat),Hid (I=4*m)/\t6 = .int .i64 I/\t5 = .int .i64 m/\I<N+4/\m<=I/\t3=jd (Rf.qh l m)/\t4=jd (Rf.x9 l m)/\ja w wr (fun _=>False)) (fun _ _ _ t6 _ _ _ _=>N+4-(intOf t6).toNat)
 case atStart=>exact⟨0,0,(show 0=4*0 from rfl),rfl,rfl,by omega,by omega,rfl,rfl,ja.refl _ _⟩
 case round =>
  obtain⟨m,I,z,rfl,rfl,bv,bo,rfl,rfl,kk⟩:=hrel;have R:=Rf.Qk HS.out m;have L:=Rf.Xp HS.out m (by have:=z.out;have:=x.out;omega);have bp:m<=300000:=by have:=z.out;omega
  rcases ZJ I N with ae|br
  ·have ah:(I:Int)<(N:Int):=by omega
   obtain⟨M,hM⟩:∃ M,M=min 4 (N-I):=⟨_,rfl⟩;have bs:1<=M/\I+M<=N/\M<=4:=by omega
   have bk:IntKind.i64.wrap ((N:Int)-(I:Int))=(N:Int)-(I:Int):=zE (by omega) (by omega);have V:(if (4:Int)<(N:Int)-(I:Int)then(4:Int)else(N:Int)-(I:Int))=(M:Int):=by split<;>omega
   have G:(if (N:Int)-(I:Int)<(4:Int)then(N:Int)-(I:Int)else(4:Int))=(M:Int):=by split<;>omega
   have al:min (4:Int) ((N:Int)-(I:Int))=(M:Int):=by omega
   have j:Hid (∀ W,Calls prog 135 #[.int .i64 M,.int .i64 1] W fun e w'=>e = .returned (jd (Rf.big M 1))/\ja W w' (fun _=>False)):=fun W=>Jr M 1 (by omega) (by omega) W;have bx:Hid (∀ c∈(l.drop I).take 4,Rf.allowed c=true):=jb (fun c hc=>HS.out c (xS (ZH hc)));have p:I<l.length:=by rw[<-x.out];exact ae
   have s:Hid (Rf.qh l (m+1)=Rf.qh l m++Rf.frame (Rf.big M 1++((l.drop I).take M).flatMap Rf.entry)):=(show _=_ from by
    have e:(l.drop I).take M=(l.drop I).take 4:=by
     have h1:=x.out
     have:(l.drop I).length=N-I:=by rw[ZU];omega
     rw[hM]
     rcases ZJ (N-I) 4 with h4|h4
     ·rw[Nat.min_eq_right (by omega),ZO (by omega),ZO (by omega)]
     ·rw[XI h4]
    have e2:((l.drop I).take 4).length=M:=by rw[<-e,ZT,ZU];have:=x.out;omega
    rw[Rf.fx l m (by have:=z.out;omega),<-z.out,e]
    unfold Rf.jm
    rw[e2])
   have r:Hid (Rf.x9 l (m+1)=(Rf.x9 l m++Rf.big (Rf.qh l m).length 4)++Rf.text l[I].key):=(show _=_ from by
    rw[Rf.Xh l m (by have:=z.out;omega),<-z.out,Pc p])
   have af:l[I].key.length<=16:=((Rf.xz _).1 (HS.out _ (zV p))).2.1;obtain⟨g,og,rfl,a0,a1,a2⟩:=(by have:=HV.out.same kk;rw[x.out] at this;exact this:Chs wr (.slice p0 l.length c0) l).at p;have i:Hid (∀ W,Calls prog 135 #[.int .i64 (Rf.qh l m).length,.int .i64 4] W fun e w'=>e = .returned (jd (Rf.big (Rf.qh l m).length 4))/\ja W w' (fun _=>False)):=fun W=>Jr _ 4 (by omega) (by omega) W;have E:Hid (∀ W,Calls prog 148 #[jd l[I].key] W fun e w'=>e = .returned (jd (Rf.text l[I].key))/\ja W w' (fun _=>False)):=fun W=>Av _ (by omega) W;have tl:(Rf.text l[I].key).length<=20:=by unfold Rf.text;rw[ZY,Rf.ji];omega
   have aj:(Rf.big (Rf.qh l m).length 4).length<=4:=by rw[Rf.ji];omega
   have T:(Rf.big M 1).length<=1:=by rw[Rf.ji];omega
   generalize Rf.text l[I].key=TX at E r tl;generalize l[I].key=ky at a0 E af;generalize l[I].value=va at a1;generalize l[I].gone=go at a2;generalize Rf.big (Rf.qh l m).length 4=B4 at i r aj;generalize Rf.qh l m=BL at *
   generalize Rf.x9 l m=PL at *
   generalize Rf.big M 1=X at j s T;have a3:BL.length<=100000000:=by omega
   have U:PL.length<=10000000:=by omega
   have bl:IntKind.i64.wrap ((m:Int)+1)=(m:Int)+1:=zE (by omega) (by omega);have bn:IntKind.i64.wrap ((I:Int)+4)=(I:Int)+4:=zE (by omega) (by omega);have b6:IntKind.i64.wrap ((I:Int)+(M:Int))=(I:Int)+(M:Int):=zE (by omega) (by omega);clear hM p R L V G;go_wp2_with fail;refine(j.out _).mono ?_;rintro e w2 ⟨rfl,H⟩
   go_upto_block 2 with fail
   go_cut [8,9] from 11 to 56 (fun s8 _ wd=>s8=jd (X++((l.drop I).take M).flatMap Rf.entry)/\ja w2 wd (fun _=>False))
   case first =>
    go_wp2_with fail
    go_loopw [8,9] (fun t8 t9 wr2=>∃ k J:Nat,Hid (J=I+k)/\t9 = .int .i64 J/\k<=M/\J<=I+M/\t8=jd (X++((l.drop I).take k).flatMap Rf.entry)/\ja w2 wr2 (fun _=>False)) (fun _ t9 _=>I+M-(intOf t9).toNat)
    case atStart=>exact⟨0,I,(show I=I+0 from rfl),rfl,zU _,by omega,by simp,ja.refl _ _⟩
    case round =>
     obtain⟨k,J,y,rfl,bq,bu,rfl,B⟩:=hrel
     have C:(((l.drop I).take k).flatMap Rf.entry).length<=59*k:=by
      have h1:=Rf.Jf (b:=(l.drop I).take k) (fun c hc=>HS.out c (xS (ZH hc)));have h2:=ZW k (l.drop I);omega
     rcases ZJ k M with hk|hk
     ·have ag:(J:Int)<(I:Int)+(M:Int):=by have:=y.out;omega
      have bt:(J:Int)<(N:Int):=by have:=y.out;omega
      have bm:IntKind.i64.wrap ((J:Int)+1)=(J:Int)+1:=zE (by omega) (by omega);have d:J<l.length:=by have:=y.out;have:=x.out;omega
      obtain⟨b',o',eb,d0,d1,d2⟩:=(by have:=((HV.out.same kk).same H).same B;rw[x.out] at this;exact this:Chs wr (.slice (some ⟨g,og,none⟩) l.length c0) l).at d;cases eb;have S:=(Rf.xz _).1 (HS.out _ (zV d))
      have F:Hid (X++((l.drop I).take (k+1)).flatMap Rf.entry=(X++((l.drop I).take k).flatMap Rf.entry)++Rf.entry l[J]):=(show _=_ from by
       have e:(l.drop I)[k]?=some l[J]:=by rw[ZV,<-y.out,zL d]
       rw[zY,e,zZ,xM,ZK]
       simp)
      have u:Hid (∀ W,Calls prog 136 #[chV l[J]] W fun e w'=>e = .returned (jd (Rf.entry l[J]))/\ja W w' (fun _=>False)):=fun W=>Fe l[J] (by omega) (by omega) W;have ai:=Rf.Ac (HS.out _ (zV d));have D:(X++((l.drop I).take k).flatMap Rf.entry).length<=600:=by rw[ZY];omega
      generalize X++((l.drop I).take k).flatMap Rf.entry=M0 at F D ⊢;generalize Rf.entry l[J]=EN at u F ai;generalize l[J]=c at d0 d1 d2 u S;obtain⟨ck,cv,cg⟩:=c;simp only at d0 d1 d2 u;have c2:=yb M0 EN;clear C d S;go_wp2_with fail;refine(u.out _).mono ?_;rintro e w3 ⟨rfl,o⟩;go_wp2;exact⟨⟨k+1,J+1,(show J+1=I+(k+1)from by have:=y.out;omega),by simp,by omega,by have:=y.out;omega,by rw[F.out],B.tt o⟩,by simp[intOf];have:=y.out;omega⟩
     ·have ag:¬(J:Int)<(I:Int)+(M:Int):=by have:=y.out;omega
      have ak:Hid (k=M):=jb (by omega);go_wp2;go_meet
      case rel=>exact⟨by rw[ak.out],B⟩
   case rest =>
    obtain⟨rfl,kc⟩:=hcut
    have C:(((l.drop I).take M).flatMap Rf.entry).length<=59*M:=by
     have h1:=Rf.Jf (b:=(l.drop I).take M) (fun c hc=>HS.out c (xS (ZH hc)));have h2:=ZW M (l.drop I);omega
    have D:(X++((l.drop I).take M).flatMap Rf.entry).length<=600:=by rw[ZY];omega
    generalize X++((l.drop I).take M).flatMap Rf.entry=Y at s D;have q:=kc.cell (H.cell a0 id) id;have c1:=yb PL B4;have c2:=yb (PL++B4) TX;have bw:(PL++B4).length<=20000000:=by rw[ZY];omega
    have f:Hid (∀ W,Calls prog 137 #[jd Y] W fun e w'=>e = .returned (jd (Rf.frame Y))/\ja W w' (fun _=>False)):=fun W=>iz Y (by omega) W;have Z:(Rf.frame Y).length<=700:=by unfold Rf.frame;simp only[ZY,Rf.ji];omega
    generalize Rf.frame Y=FM at f Z s;have c3:=yb BL FM;clear C T a0 a1 a2;go_wp2_with fail
    go_cut [4] from 11 to 56 (fun s4 wd=>s4=jd ((PL++B4)++TX)/\ja wc wd (fun _=>False))
    case first =>
     go_region_held (fun W=>W.cell? ⟨g,og+I*3,none⟩=some (jd ky)/\ja wc W (fun _=>False)) (first|exact⟨q,kq⟩|exact⟨q,ja.drew _ _⟩)
      (first
       | (go_at_call 135;with_reducible refine(i.out _).mono ?_;rintro e w3 ⟨rfl,o⟩;have A:=‹_/\ja wc _ (fun _=>False)›;have q:=o.cell A.1 id;have kq:=A.2.tt o;clear A)
       | (go_at_call 148;with_reducible refine(E.out _).mono ?_;rintro e w3 ⟨rfl,o⟩;have A:=‹_/\ja wc _ (fun _=>False)›;have q:=o.cell A.1 id;have kq:=A.2.tt o;clear A))
     all_goals
      go_wp2;go_meet
     all_goals exact⟨by simp only[yb,ZK],kq⟩
    case rest =>
     obtain⟨rfl,kd⟩:=hcut;generalize (PL++B4)++TX=PX at r;clear c1 c2;go_wp2_with fail;refine(f.out _).mono ?_;rintro e w4 ⟨rfl,k4⟩;go_wp2;exact⟨⟨m+1,I+4,(show I+4=4*(m+1)from by have:=z.out;omega),by simp,by simp,by omega,by omega,by rw[s.out],by rw[r.out],(((kk.tt H).tt kc).tt kd).tt k4⟩,by simp[intOf];omega⟩
  ·have ah:¬(I:Int)<(N:Int):=by omega
   have O:(l.length+3)/4=m:=by have:=z.out;have:=x.out;omega
   have t:Hid (Rf.jn l=(Rf.qh l m++Rf.frame (Rf.big m 2++Rf.x9 l m))++Rf.big (Rf.qh l m).length 4):=(show _=_ from by rw[Rf.dq,O]);have j:Hid (∀ W,Calls prog 135 #[.int .i64 m,.int .i64 2] W fun e w'=>e = .returned (jd (Rf.big m 2))/\ja W w' (fun _=>False)):=fun W=>Jr m 2 (by omega) (by omega) W;have i:Hid (∀ W,Calls prog 135 #[.int .i64 (Rf.qh l m).length,.int .i64 4] W fun e w'=>e = .returned (jd (Rf.big (Rf.qh l m).length 4))/\ja W w' (fun _=>False)):=fun W=>Jr _ 4 (by omega) (by omega) W;have b1:(Rf.big m 2).length<=2:=by rw[Rf.ji];omega
   have b2:(Rf.big (Rf.qh l m).length 4).length<=4:=by rw[Rf.ji];omega
   generalize Rf.big m 2=X1 at j t b1;generalize Rf.big (Rf.qh l m).length 4=X2 at i t b2;generalize Rf.qh l m=BL at *
   generalize Rf.x9 l m=PL at *
   have a3:BL.length<=100000000:=by omega
   have U:PL.length<=10000000:=by omega
   have c1:=yb X1 PL;have b3:(X1++PL).length<=20000000:=by rw[ZY];omega
   have f:Hid (∀ W,Calls prog 137 #[jd (X1++PL)] W fun e w'=>e = .returned (jd (Rf.frame (X1++PL)))/\ja W w' (fun _=>False)):=fun W=>iz _ (by omega) W;have b4:(Rf.frame (X1++PL)).length<=30000000:=by unfold Rf.frame;simp only[ZY,Rf.ji];omega
   generalize Rf.frame (X1++PL)=FM at f t b4;have c2:=yb BL FM;have c3:=yb (BL++FM) X2;have b5:(BL++FM).length<=200000000:=by rw[ZY];omega
   clear R L O;go_wp2_with fail;refine(j.out _).mono ?_;rintro e w2 ⟨rfl,H⟩;go_wp2_with fail;refine(f.out _).mono ?_;rintro e w3 ⟨rfl,o⟩;go_wp2_with fail;refine(i.out _).mono ?_;rintro e w4 ⟨rfl,k4⟩;go_wp2;go_ret;exact⟨by rw[t.out];first|rfl|(simp only[yb,ZK];rfl),((kk.tt H).tt o).tt k4⟩
end Go.Proofs.YtnipbplghijdmaaGreatDoor
