/-
  D: ChunkA.
-/
import Derived.Shelf.RegionOpen
import Derived.OwnWalkIn
import Derived.LoopNIn
import Derived.LoopIn
import Derived.Test.YtnipbplghijdmaaGreatDoorD22
import Derived.Test.YtnipbplghijdmaaGreatDoorD14
set_option maxRecDepth 100000
set_option maxHeartbeats 8000000
set_option linter.unusedVariables false
set_option linter.unusedSimpArgs false
namespace Go.Proofs.YtnipbplghijdmaaGreatDoor
open RowKit Maps WideShapes Go.Shelf Go.Proofs.Tryz
attribute [local go_sem] Oper.semAt_some
def partAt(l:List Rf.Ch)(i:Nat):List Rf.Ch:=(l.drop i).take 4
def Xe(n i:Nat):Nat:=min 4 (n-i)
def jac(b o n i:Nat):Value:= .slice (some ⟨b,o+i*3,none⟩) (Xe n i) (Xe n i)
theorem ir(l:List Rf.Ch)(i:Nat):(partAt l i).length=Xe l.length i:=by unfold partAt Xe;rw[zK,XQ]
theorem Db(a b:List Rf.Ch):jj (a++b)=jj a++jj b:=by simp[jj]
theorem Oy(l:List Rf.Ch)(i j:Nat)(u:Value)(h:(jj (partAt l i))[j]?=some u):(jj l)[i*3+j]?=some u:=by
 have e:jj l=jj (l.take i)++(jj (partAt l i)++jj ((l.drop i).drop 4)):=by
  unfold partAt;rw[<-Db,<-Db,xQ,xQ]
 have c:j<(jj (partAt l i)).length:=(zO.1 h).1
 have f:i<=l.length:=by
  rcases zV l.length i with d|d
  ·exfalso
   have:partAt l i=[]:=by unfold partAt;rw[XR (by omega)];rfl
   rw[this] at c;simp[jj] at c
  ·exact d
 have b:(jj (l.take i)).length=i*3:=by rw[yp,zK,xD f]
 rw[e,ZW (by omega),b,Nat.add_sub_cancel_left,XS c];exact h
theorem Chs.part{w:World}{b o c:Nat}{l:List Rf.Ch}(h:Chs w (.slice (some ⟨b,o,none⟩) l.length c) l)(i:Nat):Chs w (jac b o l.length i) (partAt l i):=by
 obtain⟨f,n,e,m,k,g,d⟩:=h;cases e;refine⟨some ⟨b,o+i*3,none⟩,Xe l.length i,by rw[ir];rfl,by rw[ir];exact zJ _,by unfold Xe;omega,(fun h=>by cases h),fun ad had=>?_⟩;cases had;refine⟨rfl,fun j u hu=>?_⟩;have:=(d _ rfl).2 (i*3+j) u (Oy l i j u hu);rw[Yv] at this ⊢;rw[XO];exact this
theorem Dx(b:Array Value)(w:World):(callFunc 195 b).run prog w = .ok (.enter 195 b) w:=by kernel_rfl
abbrev jhb(b o n:Nat)(k:Nat):Array Value:=#[jac b o n (4*k)]
def jh0(n:Nat)(pre:List Nat)(x:Nat)(W:World):Prop:=pre=List.range x/\4*x<n
def jia(n:Nat)(xs:List Nat)(W:World):Prop:=xs=List.range ((n+3)/4)
def je3(b b1 b2 i:Nat):Prop:=i=b\/i=b1\/i=b2
def jev(b o c b1 b2:Nat)(l:List Rf.Ch)(W:World):Prop:=Chs W (.slice (some ⟨b,o,none⟩) l.length c) l/\W.heap[b1]?=some (.cells #[.slice (some ⟨b,o,none⟩) l.length c] 38 (0,0))/\W.heap[b2]?=some (.cells #[.int .i64 4] 3 (0,0))
theorem Ev{n:Nat}(b o c u y:Nat)(l:List Rf.Ch)(hl:l.length<1048576) :
 Kj Fence.wide n prog 195 #[] #[.pointer (some ⟨u,0,none⟩),.pointer (some ⟨y,0,none⟩)] (jhb b o l.length) (fun _=>False) (je3 b u y) (jev b o c u y l) (jh0 l.length) (jia l.length) (fun _ _=>True):=by
 intro lp n₀ J Jx aJ hY C W F hC ao hS U;obtain⟨x,G,g⟩:=hS;have Y:=jb x;have HC:=jb hC;have HB:=jb F;have Z:=jb G;have L:=jb g
 have r:l.length<=c/\c<=maxLen:=by
  obtain⟨p',c',e,h1,h2,h3,h4⟩:=x;cases e;exact⟨h1,h2⟩
 have p:=jb r;clear x hC F G g r;show CallsIn Fence.wide n prog 195 #[.func (.yield lp) #[] #[],.pointer (some ⟨u,0,none⟩),.pointer (some ⟨y,0,none⟩)] W _;refine callsIn_of_wp func195 rfl trivial ?_ rfl;simp only[ntmps195,xY,zH,zX,Nat.reduceAdd,Nat.reduceSub,xZ,XA,XB,XC,xL,xM]
 gi_wp2
 gi_loopw [4] (fun i wr=>∃(k j:Nat) (z:Nat->Prop),Hid (j=4*k)/\Hid (k<=(l.length+3)/4)/\i = .int .i64 j/\J (List.range k) z wr/\(∀ i,z i->C i\/W.heap.size<=i)/\(∀ i,z i->i<wr.heap.size)/\ja W wr C)
  (fun i _=>l.length+4-(intOf i).toNat)
 case atStart=>exact⟨0,0,C,rfl,zG _,rfl,U,fun _ h=> .inl h,HB.out,ja.refl _ _⟩
 case round =>
  obtain⟨k,j,z,q,HK,rfl,I,d,t,f⟩:=hrel;have O:∀ i,je3 b u y i->¬C i:=fun i h hc=>(HC.out i hc).2 h;have S:=zA (o:=0) (f.same Z.out (O _ (.inr (.inl rfl))));have d2:=zA (o:=0) (f.same L.out (O _ (.inr (.inr rfl))));simp at S d2;have m:Chs wr (.slice (some ⟨b,o,none⟩) l.length c) l:=Y.out.keep f (fun _ p' n' c' e hc=>O _ (.inl (by cases e;rfl)) hc);rcases zV j l.length with av|ax
  ·have a5:=jb m
   clear m;have b3:wr.drew.cell? ⟨u,0,none⟩=some (.slice (some ⟨b,o,none⟩) l.length c):=S;have az:wr.drew.cell? ⟨y,0,none⟩=some (.int .i64 4):=d2;have an:j<=c:=by have:=p.out;omega
   obtain⟨M,R⟩:∃ M,M=Xe l.length j:=⟨_,rfl⟩
   have ay:(if ((l.length-j:Nat):Int)<4 then((l.length-j:Nat):Int)else 4)=(M:Int):=by
    rw[R];unfold Xe
    split<;>omega
   have H:1<=M/\j+M<=l.length/\M<=4:=by rw[R];unfold Xe;omega
   have am:IntKind.i64.wrap ((j:Int)+(M:Int))=((j+M:Nat):Int):=by rw[zE (by omega) (by omega)];omega
   have s:jh0 l.length (List.range k) k wr:=⟨rfl,by have:=q.out;omega⟩;have aw:j+M-j=M:=by omega
   have HM:=jb R;have b4:=jb H;have au:(j:Int)<=((j+M:Nat):Int):=by omega
   have ar:((j+M:Nat):Int)<=(c:Int):=by have:=p.out;omega
   have aq:j<=j+M:=by omega
   have ap:j+M<=c:=by have:=p.out;omega
   clear R H
   gi_wp2
   refine wpIn_wide.2 ?_;go_quiet (fail);have b0:(wr.drewN nq).cell? ⟨u,0,none⟩=some (.slice (some ⟨b,o,none⟩) l.length c):=S;have A:=ja.drewN wr nq (fun _=>False);obtain⟨fn,tmps,assign,body,hy,hR⟩:=hY (List.range k) k z (wr.drewN nq) (aJ _ _ _ _ I (Q2 A)) (fun i hi=>t i hi) s;simp only[jhb,jac,<-q.out,<-HM.out] at hy;have HR:=jb hR;clear hR s
   gi_wp2
   refine⟨fun h=>by simp[Fence.wide] at h,HR.out.mono ?_⟩;rintro e W3 ⟨C2,B,g,E,⟨rfl,T⟩|⟨rfl,N⟩⟩
   ·have v:ja W W3 C:=(f.tt (A.up)).trans E (fun i hi hc=>(d i hc).resolve_right (by omega))
    have V:=zA (o:=0) (v.same L.out (O _ (.inr (.inr rfl))));simp at V;have al:IntKind.i64.wrap ((j:Int)+4)=((j+4:Nat):Int):=by rw[zE (by omega) (by omega)];omega
    gi_wp2
    go_roundw
    case rel =>
     have h4:=q.out;refine⟨k+1,j+4,C2,(show j+4=4*(k+1)from by omega),(show k+1<=(l.length+3)/4 from by omega),by simp,by rw[List.range_succ];exact T,fun i hi=>?_,g,v⟩;rcases B i hi with h|h
     ·exact d i h
     ·have:=f.size
      have:=A.size;exact .inr (by omega)
    case measure=>simp[intOf];omega
   ·have v:ja W W3 C:=(f.tt (A.up)).trans E (fun i hi hc=>(d i hc).resolve_right (by omega))
    gi_wp2
    refine bodyPost_ret (results_none rfl _ _ _) rfl ?_;refine⟨C2,fun i hi=>?_,g,⟨_,rfl⟩,.inr ⟨_,trivial,N⟩⟩;rcases B i hi with h|h
    ·exact d i h
    ·have:=f.size
     have:=A.size;exact .inr (by omega)
  ·have D:k=(l.length+3)/4:=by have:=q.out;have:=HK.out;omega
   have X:=jb D;clear D m
   gi_wp2
   go_end0;refine⟨z,d,t,⟨_,rfl⟩,.inl ⟨_,?_,I⟩⟩;show List.range k=_;rw[X.out]
theorem jb4(v:Value)(w:World)(b:v.oneCell'=true) :
 Calls prog 162 #[v,.int .i64 4] w fun e w'=>e = .returned (.func (.func 195) #[] #[.pointer (some ⟨w.heap.size,0,none⟩),.pointer (some ⟨w.heap.size+1,0,none⟩)]) /\
  w'=(w.alloc (.cells #[v] 38)).alloc (.cells #[.int .i64 4] 3):=by
 go_enter func162,ntmps162;go_wp2;go_ret;exact⟨rfl,rfl⟩
end Go.Proofs.YtnipbplghijdmaaGreatDoor
