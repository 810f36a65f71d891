/-
  D: OpenW KeepA KeepB KeepC Fine PartsB LayP PutG FoldG FullG.
-/
import Derived.Test.YtnipbplghijdmaaGreatDoorD32
set_option maxRecDepth 100000
set_option maxHeartbeats 8000000
set_option linter.unusedVariables false
set_option linter.unusedSimpArgs false
namespace Go.Proofs.YtnipbplghijdmaaGreatDoor
open RowKit Maps WideShapes Go.Proofs.Tryz
variable {w w':World} {k:Nat} {v:Value} {zs:List Int} {l:List Rf.Ch}
theorem um(b x:Nat)(u:FrameMode)(w:World)(h:w.cell? ⟨x,0,none⟩=some .nilIface) :
 CallsD prog 127 #[.pointer (some ⟨b,0,none⟩),.pointer (some ⟨x,0,none⟩)] u w fun e u' w'=>u'=u/\e = .returned (.tuple #[])/\w'=w:=by
 go_enter_d func127,ntmps127;go_wp2;go_end0;exact⟨rfl,rfl⟩
def Q9(c:Int)(n:Nat):Nat:=(if c<0 then -(c+1)else c).toNat%n
theorem Ya(c:Int){n:Nat}(h:0<n):Q9 c n<n:=Nat.mod_lt _ h
theorem Xu(c:Int)(s:-9223372036854775808<=c)(r:c<=9223372036854775807)(n:Nat)(k:0<n)(p:n<1000)(w:World) :
 Calls prog 25 #[.int .i64 c,.int .i64 n] w fun e w'=>e = .returned (.int .i64 (Q9 c n))/\w'=w:=by
 have q:¬(n:Int)=0:=by omega
 have o:((n:Int)==0)=false:=by simp;omega
 rcases(by omega:c<0\/0<=c)with f|f
 ·have m:IntKind.i64.wrap (c+1)=c+1:=zE (by omega) (by omega)
  have l:IntKind.i64.wrap (-(c+1)) = -(c+1):=zE (by omega) (by omega)
  have b:(Q9 c n:Int)=(-(c+1)).tmod n:=by
   unfold Q9;rw[if_pos f,Int.tmod_eq_emod_of_nonneg (by omega),Int.natCast_emod,Int.toNat_of_nonneg (by omega)]
  have i:=Ya c k;have g:IntKind.i64.wrap ((-(c+1)).tmod n)=(-(c+1)).tmod n:=by rw[<-b];exact zE (by omega) (by omega)
  have d:=jb b;clear b;go_enter func25,ntmps25;go_wp2;go_ret;refine⟨?_,rfl⟩;rw[d.out,Int.neg_tmod];rfl
 ·have j:¬c<0:=by omega
  have b:(Q9 c n:Int)=c.tmod n:=by
   unfold Q9;rw[if_neg j,Int.tmod_eq_emod_of_nonneg (by omega),Int.natCast_emod,Int.toNat_of_nonneg (by omega)]
  have i:=Ya c k;have g:IntKind.i64.wrap (c.tmod n)=c.tmod n:=by rw[<-b];exact zE (by omega) (by omega)
  have d:=jb b;clear b;go_enter func25,ntmps25;go_wp2;go_ret;refine⟨?_,rfl⟩;rw[d.out,Int.tmod_eq_emod_of_nonneg f];rfl
def ub(x:Rf.Ch):Prop:=1<=x.key.length/\x.key.length<=5/\x.value.length<=23/\(x.gone=true->x.value=[])
theorem Hg(b:Nat)(zs:List Value)(l:List UInt8)(h:w.heap[b]?=some (.cells zs.toArray 5 (0,0)))(c:zs=l.map j5)(d:l.length<1000):(convert 84 9 (.slice (some ⟨b,0,none⟩) l.length l.length)).run prog w = .ok (jf l) w:=by
 refine Bytes.string ⟨some ⟨b,0,none⟩,l.length,rfl,zJ _,by unfold maxLen;omega,(fun h=>by cases h),fun ad had=>?_⟩;cases had;refine⟨rfl,fun j u hu=>?_⟩;rw[Yv];have:=zA (o:=0+j) h;rw[this,c];simp[hu]
theorem Wt(h:k<256):j5 (UInt8.ofNat k) = .int .u8 (k:Int):=by
 unfold j5;rw[XU,Nat.mod_eq_of_lt h]
theorem gm{fn:Func}{t:Tmp}(h:fn.results=#[.cell t 88]){tmps:Array Value}{b:Nat}{c:Rf.Ch}(f:tmps.getD t undef = .pointer (some ⟨b,0,none⟩))(i:w.heap[b]?=some (.cells #[jf c.key,jf c.value,.bool c.gone] 88 (0,0))):(results fn tmps).run prog w = .ok (chV c) w:=by
 have g:=N6 i;have d:tmps[t]?.getD undef = .pointer (some ⟨b,0,none⟩):=by simpa using f
 simp[results,h,d,asAddr,g]
theorem V8(c:Int)(Y:-9223372036854775808<=c)(X:c<=9223372036854775807)(n:Nat)(hn:n<1000000)(w:World) :
 Calls prog 59 #[.int .i64 c,.int .i64 n] w fun e w'=>∃ x,e = .returned (chV x)/\ub x/\ja w w' (fun _=>False):=by
 have l:∀ m:Int,1<=m-> -9223372036854775808<=c.tdiv m/\c.tdiv m<=9223372036854775807:=fun m hm=>by
  have h:=Int.natAbs_tdiv c m;have ak:(c.tdiv m).natAbs<=c.natAbs:=by rw[h];exact Nat.div_le_self _ _
  rcases(by omega:c<0\/0<=c)with hc|hc
  ·have:c.tdiv m<=0:=by
    have h5:c.tdiv m = -((-c).tdiv m):=by rw[Int.neg_tdiv,Int.neg_neg]
    have h6:=Int.tdiv_nonneg (a:= -c) (b:=m) (by omega) (by omega);omega
   omega
  ·have:0<=c.tdiv m:=Int.tdiv_nonneg hc (by omega)
   omega
 have A:=fun W=>Xu c Y X 9 (by decide) (by decide) W;have v:=fun W=>Xu (c.tdiv 9) (l 9 (by decide)).1 (l 9 (by decide)).2 4 (by decide) (by decide) W;have u:=fun W=>Xu (c.tdiv 36) (l 36 (by decide)).1 (l 36 (by decide)).2 4 (by decide) (by decide) W;have t:=fun W=>Xu (c.tdiv 144) (l 144 (by decide)).1 (l 144 (by decide)).2 5 (by decide) (by decide) W;have a1:IntKind.i64.wrap (c.tdiv 9)=c.tdiv 9:=zE (l 9 (by decide)).1 (l 9 (by decide)).2;have T:IntKind.i64.wrap (c.tdiv 36)=c.tdiv 36:=zE (l 36 (by decide)).1 (l 36 (by decide)).2;have H:IntKind.i64.wrap (c.tdiv 144)=c.tdiv 144:=zE (l 144 (by decide)).1 (l 144 (by decide)).2;have a3:=Ya c (n:=9) (by decide);have L:=Ya (c.tdiv 144) (n:=5) (by decide);obtain⟨Z,y⟩:∃ Z,Z=c.tdiv 9:=⟨_,rfl⟩;obtain⟨G,k⟩:∃ G,G=c.tdiv 36:=⟨_,rfl⟩;obtain⟨q,d⟩:∃ q,q=c.tdiv 144:=⟨_,rfl⟩;rw[<-y] at a1;rw[<-k] at T;rw[<-d] at H L;simp only[<-y] at v;simp only[<-k] at u;simp only[<-d] at t;have e9:=y.symm;have al:=k.symm;have ae:=d.symm;obtain⟨f,E⟩:∃ f,f=Q9 c 9:=⟨_,rfl⟩;obtain⟨J,O⟩:∃ J,J=Q9 Z 4:=⟨_,rfl⟩;obtain⟨I,N⟩:∃ I,I=Q9 G 4:=⟨_,rfl⟩;obtain⟨i,F⟩:∃ i,i=Q9 q 5:=⟨_,rfl⟩;rw[<-E] at a3;rw[<-F] at L;simp only[<-E] at A;simp only[<-O] at v;simp only[<-N] at u;simp only[<-F] at t;have a7:=jb A;have a6:=jb v;have a5:=jb u;have z:=jb t;have aj:IntKind.i64.wrap (97+(f:Int))=97+(f:Int):=zE (by omega) (by omega);obtain⟨s,M⟩:∃ s,s=UInt8.ofNat (97+f):=⟨_,rfl⟩
 have ad:(convert 84 9 (.slice (some ⟨w.heap.size+1,0,none⟩) 1 1)).run prog ((w.alloc (.cells #[.string ⟨#[]⟩,.string ⟨#[]⟩,.bool false] 88)).alloc (.cells #[.int .u8 (97+(f:Int))] 5)) = .ok (jf [s]) ((w.alloc (.cells #[.string ⟨#[]⟩,.string ⟨#[]⟩,.bool false] 88)).alloc (.cells #[.int .u8 (97+(f:Int))] 5)):=by
  refine Hg (w.heap.size+1) [.int .u8 (97+(f:Int))] [s] ?_ ?_ (by simp)
  ·have:=je (w.alloc (.cells #[.string ⟨#[]⟩,.string ⟨#[]⟩,.bool false] 88)) (.cells #[.int .u8 (97+(f:Int))] 5)
   rw[xJ] at this;exact this
  ·rw[List.map_singleton,M,Wt (by omega)]
   simp
 obtain⟨ds,D⟩:∃ ds,ds=[UInt8.ofNat (48+n%10),UInt8.ofNat (48+n/10%10),UInt8.ofNat (48+n/100%10)]:=⟨_,rfl⟩;have p:ds.length=3:=by rw[D];rfl
 have ac:(convert 84 9 (.slice (some ⟨w.heap.size+1+1,0,none⟩) 3 3)).run prog (((w.alloc (.cells #[.string ⟨#[]⟩,.string ⟨#[]⟩,.bool false] 88)).alloc (.cells #[.int .u8 (97+(f:Int))] 5)).alloc (.cells #[.int .u8 (48+(n:Int)%10),.int .u8 (48+(n:Int)/10%10),.int .u8 (48+(n:Int)/100%10)] 5)) = .ok (jf ds) (((w.alloc (.cells #[.string ⟨#[]⟩,.string ⟨#[]⟩,.bool false] 88)).alloc (.cells #[.int .u8 (97+(f:Int))] 5)).alloc (.cells #[.int .u8 (48+(n:Int)%10),.int .u8 (48+(n:Int)/10%10),.int .u8 (48+(n:Int)/100%10)] 5)):=by
  have:=Hg (w:=(((w.alloc (.cells #[.string ⟨#[]⟩,.string ⟨#[]⟩,.bool false] 88)).alloc (.cells #[.int .u8 (97+(f:Int))] 5)).alloc (.cells #[.int .u8 (48+(n:Int)%10),.int .u8 (48+(n:Int)/10%10),.int .u8 (48+(n:Int)/100%10)] 5))) (w.heap.size+1+1) [.int .u8 (48+(n:Int)%10),.int .u8 (48+(n:Int)/10%10),.int .u8 (48+(n:Int)/100%10)] ds ?_ ?_ (by omega)
  ·rw[p] at this
   exact this
  ·have h:=je ((w.alloc (.cells #[.string ⟨#[]⟩,.string ⟨#[]⟩,.bool false] 88)).alloc (.cells #[.int .u8 (97+(f:Int))] 5)) (.cells #[.int .u8 (48+(n:Int)%10),.int .u8 (48+(n:Int)/10%10),.int .u8 (48+(n:Int)/100%10)] 5)
   rw[xJ,xJ] at h;exact h
  ·rw[D]
   simp only[zP,List.map_nil,Wt (show 48+n%10<256 by omega),Wt (show 48+n/10%10<256 by omega),Wt (show 48+n/100%10<256 by omega)];simp
 have R:=jb p;clear D p;clear A v u t E O N F y k d M;have a8:((⟨#[s]⟩:ByteArray)++(⟨#[108,111,110,103]⟩:ByteArray))=⟨#[s,108,111,110,103]⟩:=rfl
 have ab:∀ V:List UInt8,((⟨V.toArray⟩:ByteArray)++(⟨#[118,97,108,117,101]⟩:ByteArray))=⟨(V++[118,97,108,117,101]).toArray⟩:=fun V=>by
  ext1;simp[ByteArray.data_append]
 rcases zN J with r|r<;>rcases zN I with r4|r4
 all_goals
  first
   | (have f4:((J:Int)==0)=true:=by simp;omega)
   | (have f4:((J:Int)==0)=false:=by simp;omega)
  first
   | (have q4:((I:Int)==0)=true:=by simp;omega)
   | (have q4:((I:Int)==0)=false:=by simp;omega)
  clear r r4;go_enter func59,ntmps59;go_wp2_with fail;refine(a7.out _).mono ?_;rintro e w1 ⟨rfl,Y⟩;subst Y;go_wp2_with fail;refine(a6.out _).mono ?_;rintro e w2 ⟨rfl,X⟩;subst X;go_wp2_with fail;refine(a5.out _).mono ?_;rintro e w3 ⟨rfl,h3⟩;subst h3
 ·go_wp2
  refine bodyPost_ret (gm rfl rfl (c:=⟨[s,108,111,110,103],[],true⟩) ?_) rfl ?_
  ·exact(ja.alloc _ _ (fun _=>False)).same (je w _) id
  ·exact⟨_,rfl,⟨by simp,by simp,by simp,fun _=>rfl⟩,(ja.alloc w _ _).more _⟩
 ·go_wp2_with fail
  go_loopw [6,7] (fun v6 v7 wr=>∃(j:Nat) (V:List UInt8),v6=jf V/\v7 = .int .i64 j/\V.length=3+5*j/\j<=i/\wr=(((w.alloc (.cells #[.string ⟨#[]⟩,.string ⟨#[]⟩,.bool false] 88)).alloc (.cells #[.int .u8 (97+(f:Int))] 5)).alloc (.cells #[.int .u8 (48+(n:Int)%10),.int .u8 (48+(n:Int)/10%10),.int .u8 (48+(n:Int)/100%10)] 5))) (fun _ v7 _=>i-(intOf v7).toNat)
  case atStart=>exact⟨0,ds,rfl,rfl,by rw[R.out],zG _,rfl⟩
  case round =>
   obtain⟨j,V,rfl,rfl,g,hj,rfl⟩:=hrel;have o:=jb g;rcases zV j i with a2|C
   ·have B:(j:Int)<(i:Int):=by omega
    have a0:IntKind.i64.wrap ((j:Int)+1)=(j:Int)+1:=zE (by omega) (by omega);have S:V.length<=30:=by omega
    clear g;go_wp2_with fail;refine(z.out _).mono ?_;rintro e U ⟨rfl,r⟩;subst r;go_wp2;exact⟨⟨j+1,V++[118,97,108,117,101],rfl,by simp,by rw[zW,o.out];simp;omega,by omega,trivial⟩,by simp[intOf];omega⟩
   ·have B:¬(j:Int)<(i:Int):=by omega
    have a4:i<=j:=C;clear g;go_wp2_with fail;refine(z.out _).mono ?_;rintro e U ⟨rfl,r⟩;subst r;go_wp2;refine bodyPost_ret (gm rfl rfl (c:=⟨[s,108,111,110,103],V,false⟩) ?_) rfl ?_
    ·exact((ja.alloc _ _ (fun _=>False)).more _).same (je w _) id
    ·exact⟨_,rfl,⟨by simp,by simp,by show V.length<=23;have:=o.out;omega,fun h=>(by cases h)⟩,((ja.alloc w _ _).more _).more _⟩
 ·go_wp2
  refine bodyPost_ret (gm rfl rfl (c:=⟨[s],[],true⟩) ?_) rfl ?_
  ·exact(ja.alloc _ _ (fun _=>False)).same (je w _) id
  ·exact⟨_,rfl,⟨by simp,by simp,by simp,fun _=>rfl⟩,(ja.alloc w _ _).more _⟩
 ·go_wp2_with fail
  go_loopw [6,7] (fun v6 v7 wr=>∃(j:Nat) (V:List UInt8),v6=jf V/\v7 = .int .i64 j/\V.length=3+5*j/\j<=i/\wr=(((w.alloc (.cells #[.string ⟨#[]⟩,.string ⟨#[]⟩,.bool false] 88)).alloc (.cells #[.int .u8 (97+(f:Int))] 5)).alloc (.cells #[.int .u8 (48+(n:Int)%10),.int .u8 (48+(n:Int)/10%10),.int .u8 (48+(n:Int)/100%10)] 5))) (fun _ v7 _=>i-(intOf v7).toNat)
  case atStart=>exact⟨0,ds,rfl,rfl,by rw[R.out],zG _,rfl⟩
  case round =>
   obtain⟨j,V,rfl,rfl,g,hj,rfl⟩:=hrel;have o:=jb g;rcases zV j i with a2|C
   ·have B:(j:Int)<(i:Int):=by omega
    have a0:IntKind.i64.wrap ((j:Int)+1)=(j:Int)+1:=zE (by omega) (by omega);have S:V.length<=30:=by omega
    clear g;go_wp2_with fail;refine(z.out _).mono ?_;rintro e U ⟨rfl,r⟩;subst r;go_wp2;exact⟨⟨j+1,V++[118,97,108,117,101],rfl,by simp,by rw[zW,o.out];simp;omega,by omega,trivial⟩,by simp[intOf];omega⟩
   ·have B:¬(j:Int)<(i:Int):=by omega
    have a4:i<=j:=C;clear g;go_wp2_with fail;refine(z.out _).mono ?_;rintro e U ⟨rfl,r⟩;subst r;go_wp2;refine bodyPost_ret (gm rfl rfl (c:=⟨[s],V,false⟩) ?_) rfl ?_
    ·exact((ja.alloc _ _ (fun _=>False)).more _).same (je w _) id
    ·exact⟨_,rfl,⟨by simp,by simp,by show V.length<=23;have:=o.out;omega,fun h=>(by cases h)⟩,((ja.alloc w _ _).more _).more _⟩
def Zs(w:World)(v:Value)(zs:List Int):Prop :=
 ∃ p c,v = .slice p zs.length c/\(p=none->zs=[])/\(∀ z∈zs,-9223372036854775808<=z/\z<=9223372036854775807)/\zs.length<1000000000000000/\∀ j z,zs[j]?=some z->∃ b o,p=some ⟨b,o,none⟩/\w.cell? ⟨b,o+j,none⟩=some (.int .i64 z)
theorem Zs.same(h:Zs w v zs)(k:ja w w' (fun _=>False)):Zs w' v zs:=by
 obtain⟨p,c,rfl,l,i,g,f⟩:=h;refine⟨p,c,rfl,l,i,g,fun j z hz=>?_⟩;obtain⟨b,o,e,d⟩:=f j z hz;exact⟨b,o,e,k.cell d id⟩
theorem Zs.at{p:Option Addr}{c:Nat}(h:Zs w (.slice p zs.length c) zs){j:Nat}(d:j<zs.length):∃ b o,p=some ⟨b,o,none⟩/\w.cell? ⟨b,o+j,none⟩=some (.int .i64 zs[j]):=by
 obtain⟨g,m,e,l,k,i,f⟩:=h;cases e;exact f j _ (xB d)
theorem On(b:Array Value)(w:World):(callFunc 59 b).run prog w = .ok (.enter 59 b) w:=by kernel_rfl
theorem V9(w:World)(x:Rf.Ch){base:Nat}(b:base<=w.heap.size):(w.alloc (.cells #[jf x.key,jf x.value,.bool x.gone] 88)).ownsRow base 88 3 (.slice (some ⟨w.heap.size,0,none⟩) 1 1) 1 (jj [x]):=by
 have:=World.ownsRow_lit (base:=base) (e:=88) (size:=3) w #[jf x.key,jf x.value,.bool x.gone] 1 b (by unfold maxLen;omega) rfl;exact this
def jcl(w:World)(e:Ending)(w':World):Prop:=∃ v es,e = .returned v/\w'.ownsRow w.heap.size 88 3 v es.length (jj es)/\1<=es.length/\es.length<=8/\(∀ x∈es,ub x)/\ja w w' (fun _=>False)
theorem jcc{kb v:Nat}{pw:Option Addr}{cw:Nat}(hw:w.cell? ⟨kb,2,none⟩=some (.slice pw v cw))(U:v<1000000)(rv:Value)(zs:List Int)(M:Zs w rv zs) :
 Calls prog 23 #[.pointer (some ⟨kb,0,none⟩),rv] w (jcl w):=by
 obtain⟨j0,hj,T,S,R⟩:=info_parts Tryz.dq;obtain⟨p,c,rfl,_,C,B,_⟩:=id M;have HZ:=jb M;have a3:=jb C;have a2:=jb B;clear M C B;go_enter func23,ntmps23;go_wp2_with fail
 go_loopw [5,6] (fun v5 v6 wr=>∃(i:Nat) (m:List Rf.Ch),v6 = .int .i64 i/\m.length=i/\i<=8/\i<=zs.length/\wr.ownsRow w.heap.size 88 3 v5 i (jj m)/\(∀ x∈m,ub x)/\ja w wr (fun _=>False)) (fun _ v6 _=>8-(intOf v6).toNat)
 case atStart=>exact⟨0,[],rfl,rfl,zG _,zG _,ZL _ _ _ _,fun x q=>(by cases q),ja.refl _ _⟩
 case round =>
  obtain⟨i,m,rfl,G,F,ar,l,D,g⟩:=hrel;have d:=jb G;have f:=jb l;have t:=jb D;obtain⟨pv,cv,rfl⟩:=jl l;have an:=a2.out;clear G l D;rcases zV i zs.length with r|au
  ·have a0:(i:Int)<(zs.length:Int):=by omega
   rcases zV i 8 with h8|h8
   ·have Z:(i:Int)<8:=by omega
    obtain⟨b,o,rfl,hc⟩:=(HZ.out.same g).at r;have n:=a3.out zs[i] (xV r);generalize zs[i]=z at hc n;have X:=g.cell hw id;have av:wr.drew.cell? ⟨b,o+i,none⟩=some (.int .i64 z):=hc;have ap:wr.drew.cell? ⟨kb,2,none⟩=some (.slice pw v cw):=X;have kd:ja wr wr.drew (fun _=>False):=ja.drew _ _;have a5:Hid (∀ W,Calls prog 59 #[.int .i64 z,.int .i64 v] W fun e w'=>∃ x,e = .returned (chV x)/\ub x/\ja W w' (fun _=>False)):=fun W=>V8 z n.1 n.2 v U W;have ao:IntKind.i64.wrap ((i:Int)+1)=(i:Int)+1:=zE (by omega) (by omega);have a1:Hid (i+1<=maxLen):=jb (by unfold maxLen;omega);have Y:Hid ((i+1)*40<=140737488355328):=jb (by omega);have ad:i<zs.length:=r;clear n;go_wp2_with fail
    go_region_law (first
     | (refine jx rfl 59 [.tmp 21,.tmp 26] _ rfl On [.int .i64 z,.int .i64 v] (by simp[Act.eval,Act.put]) (a5.out _) ?_
        rintro e J ⟨x,rfl,q,k2⟩
        have L:=kd.tt k2
        have I:=jb (V9 J x (base:=w.heap.size) (ZI g.size L.size))
        have H:=jb ((Je I.out).src)
        have a4:=jb (((L.row f.out (fun _ _ h=>h)).alloc (.cells #[jf x.key,jf x.value,.bool x.gone] 88)))
        have u:w.heap.size<=(J.alloc (.cells #[jf x.key,jf x.value,.bool x.gone] 88)).heap.size:=ZI g.size (ZI L.size (ja.alloc J _ (fun _=>False)).size)
        obtain⟨xk,xv,xg⟩:=x
        refine⟨_,rfl,?_⟩)
     | (refine Yh rfl (.tmp 17) (.tmp 28) 38 38 rfl w.heap.size 88 j0 su 3 40 underlying38 hj T S R rfl (ZM 2) (.slice pv i cv) i (jj m) (by simp[Act.eval,Act.put]) a4.out (.slice (some ⟨J.heap.size,0,none⟩) 1 1) 1 (jj [⟨xk,xv,xg⟩]) (by simp[Act.eval,Act.put]) H.out a1.out Y.out u ?_
        intro p3 c3 w3 E V aq))
    all_goals
     go_wp2;have k3:ja w w3 (fun _=>False):=((g.tt L).more _).grow V (fun j e hj=>by have:=(f.out.lt j e).1;omega);rw[<-df] at E
     exact⟨⟨i+1,m++[⟨xk,xv,xg⟩],by simp,by rw[zW,d.out];rfl,by omega,by omega,E,fun y A=>by
      rcases ZA.1 A with A|A
      ·exact t.out y A
      ·rw[zZ.1 A];exact q,k3⟩,by simp[intOf];omega⟩
   ·have Z:¬(i:Int)<8:=by omega
    rcases zN i with k|k
    ·have s:((i:Int)==0)=true:=by simp;omega
     have O:m.length=0:=by rw[d.out];exact k
     clear k;go_wp2;go_ret;exact⟨_,[⟨[97],[49],false⟩],rfl,V9 wr ⟨[97],[49],false⟩ g.size,by simp,by simp,fun x q=>(by rw[zZ.1 q];exact⟨by simp,by simp,by simp,fun h=>(by cases h)⟩),g.more _⟩
    ·have s:((i:Int)==0)=false:=by simp;omega
     have N:=jb k;clear k;go_wp2;go_ret;refine⟨_,m,rfl,?_,?_,?_,t.out,g⟩
     ·rw[d.out]
      exact f.out
     ·rw[d.out]
      exact N.out
     ·rw[d.out]
      exact F
  ·have a0:¬(i:Int)<(zs.length:Int):=by omega
   rcases zN i with k|k
   ·have s:((i:Int)==0)=true:=by simp;omega
    have O:m.length=0:=by rw[d.out];exact k
    clear k;go_wp2;go_ret;exact⟨_,[⟨[97],[49],false⟩],rfl,V9 wr ⟨[97],[49],false⟩ g.size,by simp,by simp,fun x q=>(by rw[zZ.1 q];exact⟨by simp,by simp,by simp,fun h=>(by cases h)⟩),g.more _⟩
   ·have s:((i:Int)==0)=false:=by simp;omega
    have N:=jb k;clear k;go_wp2;go_ret;refine⟨_,m,rfl,?_,?_,?_,t.out,g⟩
    ·rw[d.out]
     exact f.out
    ·rw[d.out]
     exact N.out
    ·rw[d.out]
     exact F
theorem Ui{b:List Rf.Ch}(k:1<=b.length)(j:b.length<=8)(h:∀ x∈b,ub x):Rf.zq b=true/\∀ n,(Rf.jm n b).length<=265:=by
 have d:∀ c∈b,Rf.allowed c=true:=fun c hc=>by
  obtain⟨i,o,m,g⟩:=h c hc;exact(Rf.Jk c).2 ⟨i,by omega,by omega,g⟩
 refine⟨(Rf.Ji b).2 ⟨k,j,d⟩,fun n=>?_⟩
 have H:∀ l:List Rf.Ch,(∀ x∈l,ub x)->(l.flatMap Rf.entry).length<=31*l.length:=by
  intro l
  induction l with
  | nil=>intro _;simp
  | cons x r ih =>
   intro f;have s:=ih (fun y hy=>f y (zQ _ hy));obtain⟨i,o,m,g⟩:=f x zR
   have q:(Rf.entry x).length<=31:=by
    unfold Rf.entry
    split
    ·simp[Rf.text,Rf.js];omega
    ·simp[Rf.text,Rf.js];omega
   rw[ZV,zW,zH];omega
 have p:=H b h;simp only[Rf.jm,Rf.frame,zW,Rf.js];omega
def Prs(w:World)(v:Value)(l:List Rf.Ch):Prop:=∃ base,w.ownsRow base 65 2 v l.length (qm l)
theorem Prs.same(h:Prs w v l)(k:ja w w' (fun _=>False)):Prs w' v l:=by
 obtain⟨base,h⟩:=h;exact⟨base,k.row h (fun _ _ h=>h)⟩
theorem Uu(h:k<l.length):(qm l)[k*2]?=some (jf l[k].key)/\(qm l)[k*2+1]?=some (jf l[k].value):=by
 induction l generalizing k with
 | nil=>simp at h
 | cons x r ih =>
  cases k with
  | zero=>simp[qm]
  | succ k =>
   have:=ih (k:=k) (by simpa using h);have e:qm (x::r)=jf x.key::jf x.value::qm r:=by simp[qm]
   rw[e,show(k+1)*2=k*2+1+1 by omega];simpa using this
theorem Prs.at(h:Prs w v l)(j:k<l.length):∃ g c,v = .slice (some ⟨g,0,none⟩) l.length c/\w.cell? ⟨g,k*2,none⟩=some (jf l[k].key)/\w.cell? ⟨g,k*2+1,none⟩=some (jf l[k].value):=by
 obtain⟨base,h⟩:=h;have d:=Uu j;rcases h.2 with⟨_,p⟩|⟨g,cap,f,e,_,b,o,n,m,i⟩
 ·omega
 ·refine⟨g,cap,e,?_,?_⟩
  ·rw[zA b]
   have:(f.toList.take (l.length*2))[k*2]?=some (jf l[k].key):=by rw[i];exact d.1
   rw[xW] at this
   split at this
   ·simpa using this
   ·cases this
  ·rw[zA b]
   have:(f.toList.take (l.length*2))[k*2+1]?=some (jf l[k].value):=by rw[i];exact d.2
   rw[xW] at this
   split at this
   ·simpa using this
   ·cases this
def bt(c:Rf.Ch):Str×Str:=(c.key,c.value)
theorem P8(s r:Value)(d lb:List Rf.Ch)(x:Prs w s d)(v:Prs w r lb)(u:d.map bt=lb.map bt)(D:d.length<1100000) :
 Calls prog 31 #[s,r] w fun e w'=>e = .returned (.bool true)/\ja w w' (fun _=>False):=by
 have b:d.length=lb.length:=by have:=congrArg List.length u;simpa using this
 obtain⟨V,ca,g⟩:∃ p c,s = .slice p d.length c:=by obtain⟨_,h⟩:=x;obtain⟨p,c,e⟩:=jl h;exact⟨p,c,e⟩
 obtain⟨T,Z,f⟩:∃ p c,r = .slice p lb.length c:=by obtain⟨_,h⟩:=v;obtain⟨p,c,e⟩:=jl h;exact⟨p,c,e⟩
 rw[<-b] at f;obtain⟨n,t⟩:∃ n,n=d.length:=⟨_,rfl⟩;rw[<-t] at g f D;have M:=jb x;have L:=jb v;have J:=jb u;have I:=jb t;have m:=jb b;subst g;subst f;clear x v u t b;go_enter func31,ntmps31;go_wp2_with fail
 go_loopw [5] (fun i wr=>∃ k:Nat,k<=n/\i = .int .i64 k/\ja w wr (fun _=>False)) (fun i _=>n-(intOf i).toNat)
 case atStart=>exact⟨0,zG _,rfl,ja.refl _ _⟩
 case round =>
  obtain⟨k,W,rfl,o⟩:=hrel;rcases zV k n with z|O
  ·have q:k<d.length:=by rw[<-I.out];exact z
   have y:k<lb.length:=by rw[<-m.out];exact q
   obtain⟨Y,S,F,H,G⟩:=(M.out.same o).at q;obtain⟨X,R,E,C,B⟩:=(L.out.same o).at y
   have j:bt d[k]=bt lb[k]:=by
    have:=congrArg (fun l=>l[k]?) J.out;simp only[ZN,xB q,xB y,Option.map_some] at this;exact Option.some.inj this
   unfold bt at j;injection j with e1 e2;rw[<-e1] at C;rw[<-e2] at B;generalize d[k].key=K at H C;generalize d[k].value=U at G B;injection F with ea1 ea2 ea3;injection E with eb1 eb2 eb3;subst ea1;subst eb1;clear ea2 ea3 eb2 eb3;have A:(k:Int)<(n:Int):=by omega
   have N:IntKind.i64.wrap ((k:Int)+1)=(k:Int)+1:=zE (by omega) (by omega);clear q y e1 e2;go_wp2_with fail;go_quiet (fail);go_wp2;exact⟨⟨k+1,by omega,by simp,o.tt (ja.drewN wr nq _)⟩,by simp[intOf];omega⟩
  ·have A:¬(k:Int)<(n:Int):=by omega
   go_wp2;go_ret;exact⟨rfl,o⟩
end Go.Proofs.YtnipbplghijdmaaGreatDoor
namespace Go.Proofs.YtnipbplghijdmaaGreatDoor
open RowKit Maps WideShapes Go.Proofs.Tryz
def lens(ls:List (List Rf.Ch)):Nat:=(ls.map List.length).sum
structure sy(i:Nat)(s:Rf.St):Prop where
 ok:s.Ok
 last:s.last=i
 base:s.m.base=0
 next:s.m.next<=2+2*s.m.last
 jib:1<=s.m.next
 len:s.bls.length=s.m.runs.length
 runs:s.m.runs.length<=s.m.last
 all:lens s.bls<=8*s.m.last
 log:(Rf.jk s.m.last s.bs).length<=265*s.bs.length
 mem:s.mem.length<=8*s.bs.length
end Go.Proofs.YtnipbplghijdmaaGreatDoor
namespace Go.Proofs.YtnipbplghijdmaaGreatDoor
open RowKit Maps WideShapes Go.Proofs.Tryz
theorem Tryz.jfw:(prog.info? 38).map (fun i=>(i.zero,i.size,i.bytes))=some (some (.slice none 0 0),1,24):=by kernel_rfl
end Go.Proofs.YtnipbplghijdmaaGreatDoor
namespace Go.Proofs.YtnipbplghijdmaaGreatDoor.Rf
open Go.Proofs.Tryz
variable {c:Ch} {l:List Ch}
def iw(l:List Ch)(c:Ch):List Ch:=im c (l.foldl (zk c) ([],c.gone))
theorem Nj(l out:List Ch):l.foldl (zk c) (out,true)=(out++l.filter (fun x=>decide (x.key≠c.key)),true):=by
 induction l generalizing out with
 | nil=>simp
 | cons x r ih =>
  rw[XN];by_cases h:x.key=c.key
  ·have e:zk c (out,true) x=(out,true):=by simp[zk,h]
   rw[e,ih,XV (by simp[h])]
  ·have e:zk c (out,true) x=(out++[x],true):=by simp[zk,h]
   rw[e,ih,XW (by simp[h])];simp
def Live(l:List Ch):Prop:=∀ x∈l,x.gone=false
theorem Ue(h:Live l):there l=l:=by
 unfold there;rw[ZQ];intro x b;simp[h x b]
theorem vr(l:List Ch):Live (there l):=fun x hx=>by
 have:=(ZD.1 hx).2
 simpa using this
theorem jal(h:jw l)(g:Live l):iw l c=there (ins c l):=by
 unfold iw;by_cases hg:c.gone=true
 ·rw[hg,Nj]
  simp only[im,xL,Bool.true_eq_false,if_false];refine ma (Xj h _) (Jb (Jq h)) (fun k=>?_);have e:=mo (l:=l) (fun q=>decide (q≠c.key)) k;rw[e,bg (Jq h),tw h];by_cases hk:c.key=k
  ·have:(decide (k≠c.key))=false:=by simp[hk]
   rw[if_pos hk,this];simp[Option.filter,hg]
  ·have f:(decide (k≠c.key))=true:=by simp;exact fun e=>hk e.symm
   rw[if_neg hk,f,if_pos rfl]
   cases hgi:x8 l k with
   | none=>rfl
   | some x =>
    have b:x∈l:=List.mem_of_find?_eq_some hgi;simp[Option.filter,g x b]
 ·have d:c.gone=false:=by simpa using hg
  rw[d];have e:=Cs (c:=c) (out:=[]) h;rw[e,xL,Ue];intro x b;rcases Nw b with rfl|b
  ·exact d
  ·exact g x b
def Xw(l:List Ch)(b:List Ch):List Ch:=b.foldl iw l
def zj(bs:List (List Ch)):List Ch:=bs.foldl Xw []
theorem vv(bs:List (List Ch))(b:List Ch):zj (bs++[b])=Xw (zj bs) b:=by simp[zj,XM]
theorem Vf(h:jw l):iw (there l) c=there (ins c l):=by
 rw[jal (Jb h) (vr l)];have e:=Ft (l:=l) (m:=[c]) h (List.pairwise_singleton _ _)
 have b:∀ q:List Ch,jw q->over q [c]=ins c q:=fun q hq=>by
  show put q c=ins c q;exact X3 hq
 rw[b _ (Jb h),b _ h] at e;exact e
theorem Sf(h:jw l)(b:List Ch):Xw (there l) b=there (over l b):=by
 induction b generalizing l with
 | nil=>rfl
 | cons c r ih =>
  have f:over l (c::r)=over (put l c) r:=rfl;have d:Xw (there l) (c::r)=Xw (iw (there l) c) r:=rfl;rw[f,d,X3 h,Vf h,ih (Jq h)]
theorem St.Uf(s:St)(b:List Ch):(s.write b).tell=Xw s.tell b:=by
 unfold St.tell;rw[St.jcf,Sf (St.ni s)]
theorem St.vg(s:St):s.flush.tell=s.tell:=by unfold St.tell;rw[St.Mu]
theorem St.Lv(s:St):Live s.tell/\jw s.tell:=⟨vr _,Jb (St.ni s)⟩
theorem L8(s:St){most:Nat}(h:s.tell.length<=most):pj s.all [] [] most=s.tell:=by
 unfold pj
 have e:(there s.all).filter (Oa [] [])=there s.all:=by
  rw[ZQ];intro x b;simp[Oa]
 rw[e];exact xF h
def ew(c:Ch):Nat:=(entry c).length+8
def mu(l:List Ch):Nat:=(l.map ew).sum
theorem jfq(c:Ch)(l:List Ch):mu (c::l)=ew c+mu l:=by simp[mu]
theorem jae(l:List Ch):mu l=(l.flatMap entry).length+8*l.length:=by
 induction l with
 | nil=>rfl
 | cons c r ih =>
  rw[jfq,ih,ZV,zW,zH];unfold ew;omega
theorem Lp(l:List Ch)(m:Nat)(c:4*m<l.length+4):(ze l m).length=((l.take (4*m)).flatMap entry).length+9*m:=by
 induction m with
 | zero=>simp[ze]
 | succ m ih =>
  have b:=ih (by omega);rw[vd l m (by omega),zW,b]
  have e:l.take (4*(m+1))=l.take (4*m)++(l.drop (4*m)).take 4:=by
   rw[show 4*(m+1)=4*m+4 by omega,List.take_add]
  rw[e,XT,zW];unfold j4 frame;simp only[zW,js];omega
theorem Lq(n:Nat)(b:List Ch):(jm n b).length+8*b.length=17+mu b:=by
 have c:=jae b;unfold jm frame;simp only[zW,js];omega
end Go.Proofs.YtnipbplghijdmaaGreatDoor.Rf
namespace Go.Proofs.YtnipbplghijdmaaGreatDoor
open Go.Proofs.Tryz
theorem Na(m:Rf.Man):m.settled.length<=m.runs.length+1:=by
 unfold Rf.Man.settled
 split<;>simp
end Go.Proofs.YtnipbplghijdmaaGreatDoor
namespace Go.Proofs.YtnipbplghijdmaaGreatDoor
open RowKit Maps WideShapes Go.Proofs.Tryz
variable {l:List Rf.Ch} {w:World} {v:Value} {ess:List (List Rf.Ch)} {i:Nat}
def kto(l:List Rf.Ch)(c:Rf.Ch)(j:Nat):List Rf.Ch×Bool:=(l.take j).foldl (Rf.zk c) ([],c.gone)
theorem Se{c x:Rf.Ch}{j:Nat}(h:l[j]?=some x):kto l c (j+1)=Rf.zk c (kto l c j) x:=by
 unfold kto;rw[xH,h,xO,XM];rfl
theorem Gx(c x:Rf.Ch)(s:List Rf.Ch×Bool):(Rf.zk c s x).1.length<=s.1.length+2:=by
 unfold Rf.zk;simp only
 repeat' split
 all_goals simp
theorem Ve(l:List Rf.Ch)(c:Rf.Ch)(j:Nat)(b:j<=l.length):(kto l c j).1.length<=2*j:=by
 induction j with
 | zero=>simp[kto]
 | succ j ih =>
  rw[Se (xB (show j<l.length by omega))];have f:=ih (by omega);have d:=Gx c l[j] (kto l c j);omega
theorem jfs(l:List Rf.Ch)(c:Rf.Ch):Rf.iw l c=Rf.im c (kto l c l.length):=by
 unfold kto Rf.iw;rw[xR]
theorem jd2(v:Value)(l:List Rf.Ch)(hv:Prs w v l)(hl:l.length<1100000)(c:Rf.Ch) :
 Calls prog 73 #[v,.agg #[jf c.key,jf c.value,.bool c.gone]] w fun e w'=>∃ v',e = .returned v'/\w'.ownsRow w.heap.size 65 2 v' (Rf.iw l c).length (qm (Rf.iw l c))/\ja w w' (fun _=>False):=by
 obtain⟨j1,ap,ao,an,am⟩:=info_parts Tryz.jd8;obtain⟨I,J,T⟩:=c;simp only;obtain⟨p0,c0,rfl⟩:∃ p c,v = .slice p l.length c:=by obtain⟨_,h⟩:=hv;obtain⟨p,c,e⟩:=jl h;exact⟨p,c,e⟩
 obtain⟨n,hn⟩:∃ n,n=l.length:=⟨_,rfl⟩;rw[<-hn] at hv hl ⊢;obtain⟨w1,az⟩:∃ w1,w1=w.alloc (.cells #[jf I,jf J,.bool T] 88):=⟨_,rfl⟩;obtain⟨A,b9⟩:∃ A,A=w.heap.size:=⟨_,rfl⟩;have k1:ja w w1 (fun _=>False):=by rw[az];exact ja.alloc _ _ _
 have bt:w1.heap[A]?=some (.cells #[jf I,jf J,.bool T] 88 (0,0)):=by rw[az,b9];exact je _ _
 have s1:w1.heap.size=A+1:=by rw[az,b9];exact Array.size_push _
 have HV:=jb (hv.same k1);have HN:=jb hn;have co:=jb bt;have a5:=jb s1;have bp:=jb b9;have cm:=jb az;clear hv hn bt s1 b9 az;go_enter func73,ntmps73;go_wp2_with fail;rw[<-cm.out,<-bp.out]
 go_loopw [5,6,7] (fun t5 t6 t7 wr=>∃(j:Nat) (dn:Bool),t7 = .int .i64 j/\j<=n/\t6 = .bool dn/\Hid (dn=(kto l ⟨I,J,T⟩ j).2)/\wr.ownsRow (A+1) 65 2 t5 (kto l ⟨I,J,T⟩ j).1.length (qm (kto l ⟨I,J,T⟩ j).1)/\ja w1 wr (fun _=>False)) (fun _ _ t7 _=>n-(intOf t7).toNat)
 case atStart=>exact⟨0,T,rfl,zG _,rfl,rfl,by simp[kto,qm];exact ZL _ _ _ _,ja.refl _ _⟩
 case round =>
  obtain⟨j,dn,rfl,ci,rfl,HD,bk,kk⟩:=hrel;have cn:=jb bk;obtain⟨pq,cq,rfl⟩:=jl bk;have bs:=kk.same co.out id;have b0:=zA (o:=0) bs;have b1:=zA (o:=1) bs;simp at b0 b1;obtain⟨q,hq⟩:∃ q,q=(kto l ⟨I,J,T⟩ j).1.length:=⟨_,rfl⟩;have cf:=Ve l ⟨I,J,T⟩ j (by rw[<-HN.out];exact ci);rw[<-hq] at cf ⊢;have HQ:=jb hq;obtain⟨L,hL⟩:∃ L,L=(kto l ⟨I,J,T⟩ j).1:=⟨_,rfl⟩;have X:Hid (wr.ownsRow (A+1) 65 2 (.slice pq q cq) q (qm L)):=by have:=cn.out;rw[<-HQ.out,<-hL] at this;exact this
  have au:Hid (kto l ⟨I,J,T⟩ j=(L,dn)):=jb (by rw[hL,HD.out]);have ak:Hid (q=L.length):=jb (by rw[HQ.out,hL]);have ay:Hid (q+1<=maxLen):=jb (by unfold maxLen;omega);have ax:Hid ((q+1)*32<=140737488355328):=jb (by omega);have bw:Hid (q+1+1<=maxLen):=jb (by unfold maxLen;omega);have bv:Hid ((q+1+1)*32<=140737488355328):=jb (by omega);have bj:=kk.size;rw[a5.out] at bj;have ar:=jb bj;clear bk hq hL HD bj;rcases zV j n with ch|d2
  ·have bm:j<l.length:=by rw[<-HN.out];exact ch
   obtain⟨g,d3,eg,a0,a1⟩:=(HV.out.same kk).at bm;injection eg with eg1 eg2 eg3;subst eg1;clear eg2 eg3;have bn:l[j]?=some l[j]:=xB bm;generalize l[j]=x at a0 a1 bn;obtain⟨xk,xv,xg⟩:=x;simp only at a0 a1;have Z:=jb (Se (c:=⟨I,J,T⟩) bn);have cj:(j:Int)<(n:Int):=by omega
   have d1:IntKind.i64.wrap ((j:Int)+1)=(j:Int)+1:=zE (by omega) (by omega)
   have HG:Hid (g<A+1):=by
    obtain⟨base,hP⟩:=HV.out;have h2:=(hP.lt g rfl).2;rw[a5.out] at h2;exact h2
   clear bn bm;have ag:∀ u∈qm [⟨xk,xv,xg⟩],u.oneCell'=true:=Nk _;have ah:∀ u∈qm [⟨I,J,T⟩],u.oneCell'=true:=Nk _
   have HX:Hid (∀(W:World) (j':Nat) (u:Value),(qm [⟨xk,xv,xg⟩])[j']?=some u->(W.alloc (.cells #[jf xk,jf xv] 65)).cell? ((⟨W.heap.size,0,none⟩:Addr).add j')=some u):=fun W j' u hu=>by
    rw[Yv,zA (je W _)];simpa [qm] using hu
   have HC:Hid (∀(W:World) (j':Nat) (u:Value),(qm [⟨I,J,T⟩])[j']?=some u->(W.alloc (.cells #[jf I,jf J] 65)).cell? ((⟨W.heap.size,0,none⟩:Addr).add j')=some u):=fun W j' u hu=>by
    rw[Yv,zA (je W _)];simpa [qm] using hu
   by_cases he:xk=I
   ·have cl:(xk==I)=true:=by simp[he]
    have br:Op.bytesLess xk I=false:=by rw[bytesLess_eq,he];simp[ZY]
    cases dn with
    | true =>
     have M:Hid (kto l ⟨I,J,T⟩ (j+1)=(L,true)):=jb (by rw[Z.out,au.out];simp[Rf.zk,he]);have a6:=kk;have z:=ar;have S:=a0;have R:=a1;have O:=b0;have N:=b1;clear he;go_wp2_with fail;go_quiet (fail);obtain⟨b,t⟩:∃ wq,wq=World.drewN wr nq:=⟨_,rfl⟩;rw[<-t];have f:ja wr b (fun _=>False):=by rw[t];exact ja.drewN wr nq _
     clear t;have D:ja w1 b (fun _=>False):=kk.tt f;have m:=f.row X.out (fun _ _ h=>h);have y:Hid (A+1<=b.heap.size):=ZI z.out f.size;have H:=f.cell S id;have G:=f.cell R id;have F:=f.cell O id;have E:=f.cell N id;go_wp2_with fail;go_quiet (fail);obtain⟨r,s⟩:∃ wq,wq=World.drewN b nq:=⟨_,rfl⟩;rw[<-s];have d:ja b r (fun _=>False):=by rw[s];exact ja.drewN b nq _
     clear s;have C:ja w1 r (fun _=>False):=D.tt d;have k:=d.row m (fun _ _ h=>h);have B:Hid (A+1<=r.heap.size):=ZI y.out d.size;have ad:=d.cell H id;have ac:=d.cell G id;have ab:=d.cell F id;have aa:=d.cell E id;go_wp2;exact⟨⟨j+1,true,by simp,by omega,rfl,(show true=_ from by rw[M.out]),by rw[M.out,<-ak.out];exact k,C⟩,by simp[intOf];omega⟩
    | false =>
     have M:Hid (kto l ⟨I,J,T⟩ (j+1)=(L++[⟨I,J,T⟩],true)):=jb (by rw[Z.out,au.out];simp[Rf.zk,he]);have a6:=kk;have z:=ar;have S:=a0;have R:=a1;have O:=b0;have N:=b1;clear he;go_wp2_with fail;go_quiet (fail);obtain⟨b,t⟩:∃ wq,wq=World.drewN wr nq:=⟨_,rfl⟩;rw[<-t];have f:ja wr b (fun _=>False):=by rw[t];exact ja.drewN wr nq _
     clear t;have D:ja w1 b (fun _=>False):=kk.tt f;have m:=f.row X.out (fun _ _ h=>h);have y:Hid (A+1<=b.heap.size):=ZI z.out f.size;have H:=f.cell S id;have G:=f.cell R id;have F:=f.cell O id;have E:=f.cell N id;have a8:=m.alloc (.cells #[jf I,jf J] 65);have a9:=HC.out b;have al:A+1<=(b.alloc (.cells #[jf I,jf J] 65)).heap.size:=ZI y.out (ja.alloc b _ (fun _=>False)).size
     go_wp2_with (first|(at_builtin;refine jy _ rfl (.tmp 28) (.tmp 34) 55 rfl (A+1) 65 j1 prZ 2 32 underlying55 ap ao an am rfl (ZM 1) _ _ _ rfl a8 ⟨b.heap.size,0,none⟩ 1 1 (qm [⟨I,J,T⟩]) rfl rfl a9 ah ay.out ax.out al ?_;intro p7 c7 w7 aj Y bq;have af:Hid (∀ i,(Value.slice pq q cq).ownBlock=some i->A+1<=i):=fun i e=>(m.lt i e).1;have b5:=(ja.grown Y).cell ((ja.alloc b _ (fun _=>False)).cell H id) (fun e=>XZ g (ZH HG.out (af.out g e.symm)));have b4:=(ja.grown Y).cell ((ja.alloc b _ (fun _=>False)).cell G id) (fun e=>XZ g (ZH HG.out (af.out g e.symm)));have b3:=(ja.grown Y).cell ((ja.alloc b _ (fun _=>False)).cell F id) (fun e=>XZ A (ZH (Nat.lt_succ_self A) (af.out A e.symm)));have b2:=(ja.grown Y).cell ((ja.alloc b _ (fun _=>False)).cell E id) (fun e=>XZ A (ZH (Nat.lt_succ_self A) (af.out A e.symm)))))
     have k7:ja w1 w7 (fun _=>False):=(D.more _).grow Y (fun i e hi=>by have:=(m.lt i e).1;have:=a5.out;omega);have bu:=k7;have av:Hid (A+1<=w7.heap.size):=jb (by have:=k7.size;rw[a5.out] at this;exact this);rw[<-Qo] at aj;go_quiet (fail);obtain⟨r,s⟩:∃ wq,wq=World.drewN w7 nq:=⟨_,rfl⟩;rw[<-s];have d:ja w7 r (fun _=>False):=by rw[s];exact ja.drewN w7 nq _
     clear s;have C:ja w1 r (fun _=>False):=k7.tt d;have k:=d.row aj (fun _ _ h=>h);have B:Hid (A+1<=r.heap.size):=ZI av.out d.size;have ad:=d.cell b5 id;have ac:=d.cell b4 id;have ab:=d.cell b3 id;have aa:=d.cell b2 id;go_wp2;exact⟨⟨j+1,true,by simp,by omega,rfl,(show true=_ from by rw[M.out]),by rw[M.out,zW,<-ak.out];exact k,C⟩,by simp[intOf];omega⟩
   ·have cl:(xk==I)=false:=by simpa using he
    by_cases hL2:xk<I
    ·have br:Op.bytesLess xk I=true:=by rw[bytesLess_eq];simpa using hL2
     cases dn with
     | true =>
      have M:Hid (kto l ⟨I,J,T⟩ (j+1)=(L++[⟨xk,xv,xg⟩],true)):=jb (by rw[Z.out,au.out];simp[Rf.zk,he,hL2]);have a6:=kk;have z:=ar;have S:=a0;have R:=a1;have O:=b0;have N:=b1;clear he hL2;go_wp2_with fail;go_quiet (fail);obtain⟨b,t⟩:∃ wq,wq=World.drewN wr nq:=⟨_,rfl⟩;rw[<-t];have f:ja wr b (fun _=>False):=by rw[t];exact ja.drewN wr nq _
      clear t;have D:ja w1 b (fun _=>False):=kk.tt f;have m:=f.row X.out (fun _ _ h=>h);have y:Hid (A+1<=b.heap.size):=ZI z.out f.size;have H:=f.cell S id;have G:=f.cell R id;have F:=f.cell O id;have E:=f.cell N id;go_wp2_with fail;go_quiet (fail);obtain⟨r,s⟩:∃ wq,wq=World.drewN b nq:=⟨_,rfl⟩;rw[<-s];have d:ja b r (fun _=>False):=by rw[s];exact ja.drewN b nq _
      clear s;have C:ja w1 r (fun _=>False):=D.tt d;have k:=d.row m (fun _ _ h=>h);have B:Hid (A+1<=r.heap.size):=ZI y.out d.size;have ad:=d.cell H id;have ac:=d.cell G id;have ab:=d.cell F id;have aa:=d.cell E id;have U:=k.alloc (.cells #[jf xk,jf xv] 65);have V:=HX.out r;have a7:A+1<=(r.alloc (.cells #[jf xk,jf xv] 65)).heap.size:=ZI B.out (ja.alloc r _ (fun _=>False)).size
      go_wp2_with (first|(at_builtin;refine jy _ rfl (.tmp 44) (.tmp 49) 55 rfl (A+1) 65 j1 prZ 2 32 underlying55 ap ao an am rfl (ZM 1) _ _ _ rfl U ⟨r.heap.size,0,none⟩ 1 1 (qm [⟨xk,xv,xg⟩]) rfl rfl V ag ay.out ax.out a7 ?_;intro p8 c8 w8 a4 aq bl))
      have k8:ja w1 w8 (fun _=>False):=(C.more _).grow aq (fun i e hi=>by have:=(k.lt i e).1;have:=a5.out;omega);rw[<-Qo] at a4;exact⟨⟨j+1,true,by simp,by omega,rfl,(show true=_ from by rw[M.out]),by rw[M.out,zW,<-ak.out];exact a4,k8⟩,by simp[intOf];omega⟩
     | false =>
      have M:Hid (kto l ⟨I,J,T⟩ (j+1)=(L++[⟨xk,xv,xg⟩],false)):=jb (by rw[Z.out,au.out];simp[Rf.zk,he,hL2]);have a6:=kk;have z:=ar;have S:=a0;have R:=a1;have O:=b0;have N:=b1;clear he hL2;go_wp2_with fail;go_quiet (fail);obtain⟨b,t⟩:∃ wq,wq=World.drewN wr nq:=⟨_,rfl⟩;rw[<-t];have f:ja wr b (fun _=>False):=by rw[t];exact ja.drewN wr nq _
      clear t;have D:ja w1 b (fun _=>False):=kk.tt f;have m:=f.row X.out (fun _ _ h=>h);have y:Hid (A+1<=b.heap.size):=ZI z.out f.size;have H:=f.cell S id;have G:=f.cell R id;have F:=f.cell O id;have E:=f.cell N id;go_wp2_with fail;go_quiet (fail);obtain⟨r,s⟩:∃ wq,wq=World.drewN b nq:=⟨_,rfl⟩;rw[<-s];have d:ja b r (fun _=>False):=by rw[s];exact ja.drewN b nq _
      clear s;have C:ja w1 r (fun _=>False):=D.tt d;have k:=d.row m (fun _ _ h=>h);have B:Hid (A+1<=r.heap.size):=ZI y.out d.size;have ad:=d.cell H id;have ac:=d.cell G id;have ab:=d.cell F id;have aa:=d.cell E id;have U:=k.alloc (.cells #[jf xk,jf xv] 65);have V:=HX.out r;have a7:A+1<=(r.alloc (.cells #[jf xk,jf xv] 65)).heap.size:=ZI B.out (ja.alloc r _ (fun _=>False)).size
      go_wp2_with (first|(at_builtin;refine jy _ rfl (.tmp 44) (.tmp 49) 55 rfl (A+1) 65 j1 prZ 2 32 underlying55 ap ao an am rfl (ZM 1) _ _ _ rfl U ⟨r.heap.size,0,none⟩ 1 1 (qm [⟨xk,xv,xg⟩]) rfl rfl V ag ay.out ax.out a7 ?_;intro p8 c8 w8 a4 aq bl))
      have k8:ja w1 w8 (fun _=>False):=(C.more _).grow aq (fun i e hi=>by have:=(k.lt i e).1;have:=a5.out;omega);rw[<-Qo] at a4;exact⟨⟨j+1,false,by simp,by omega,rfl,(show false=_ from by rw[M.out]),by rw[M.out,zW,<-ak.out];exact a4,k8⟩,by simp[intOf];omega⟩
    ·have br:Op.bytesLess xk I=false:=by rw[bytesLess_eq];simpa using hL2
     cases dn with
     | true =>
      have M:Hid (kto l ⟨I,J,T⟩ (j+1)=(L++[⟨xk,xv,xg⟩],true)):=jb (by rw[Z.out,au.out];simp[Rf.zk,he,hL2]);have a6:=kk;have z:=ar;have S:=a0;have R:=a1;have O:=b0;have N:=b1;clear he hL2;go_wp2_with fail;go_quiet (fail);obtain⟨b,t⟩:∃ wq,wq=World.drewN wr nq:=⟨_,rfl⟩;rw[<-t];have f:ja wr b (fun _=>False):=by rw[t];exact ja.drewN wr nq _
      clear t;have D:ja w1 b (fun _=>False):=kk.tt f;have m:=f.row X.out (fun _ _ h=>h);have y:Hid (A+1<=b.heap.size):=ZI z.out f.size;have H:=f.cell S id;have G:=f.cell R id;have F:=f.cell O id;have E:=f.cell N id;go_wp2_with fail;go_quiet (fail);obtain⟨r,s⟩:∃ wq,wq=World.drewN b nq:=⟨_,rfl⟩;rw[<-s];have d:ja b r (fun _=>False):=by rw[s];exact ja.drewN b nq _
      clear s;have C:ja w1 r (fun _=>False):=D.tt d;have k:=d.row m (fun _ _ h=>h);have B:Hid (A+1<=r.heap.size):=ZI y.out d.size;have ad:=d.cell H id;have ac:=d.cell G id;have ab:=d.cell F id;have aa:=d.cell E id;have U:=k.alloc (.cells #[jf xk,jf xv] 65);have V:=HX.out r;have a7:A+1<=(r.alloc (.cells #[jf xk,jf xv] 65)).heap.size:=ZI B.out (ja.alloc r _ (fun _=>False)).size
      go_wp2_with (first|(at_builtin;refine jy _ rfl (.tmp 44) (.tmp 49) 55 rfl (A+1) 65 j1 prZ 2 32 underlying55 ap ao an am rfl (ZM 1) _ _ _ rfl U ⟨r.heap.size,0,none⟩ 1 1 (qm [⟨xk,xv,xg⟩]) rfl rfl V ag ay.out ax.out a7 ?_;intro p8 c8 w8 a4 aq bl))
      have k8:ja w1 w8 (fun _=>False):=(C.more _).grow aq (fun i e hi=>by have:=(k.lt i e).1;have:=a5.out;omega);rw[<-Qo] at a4;exact⟨⟨j+1,true,by simp,by omega,rfl,(show true=_ from by rw[M.out]),by rw[M.out,zW,<-ak.out];exact a4,k8⟩,by simp[intOf];omega⟩
     | false =>
      have M:Hid (kto l ⟨I,J,T⟩ (j+1)=((L++[⟨I,J,T⟩])++[⟨xk,xv,xg⟩],true)):=jb (by rw[Z.out,au.out];simp[Rf.zk,he,hL2]);have a6:=kk;have z:=ar;have S:=a0;have R:=a1;have O:=b0;have N:=b1;clear he hL2;go_wp2_with fail;go_quiet (fail);obtain⟨b,t⟩:∃ wq,wq=World.drewN wr nq:=⟨_,rfl⟩;rw[<-t];have f:ja wr b (fun _=>False):=by rw[t];exact ja.drewN wr nq _
      clear t;have D:ja w1 b (fun _=>False):=kk.tt f;have m:=f.row X.out (fun _ _ h=>h);have y:Hid (A+1<=b.heap.size):=ZI z.out f.size;have H:=f.cell S id;have G:=f.cell R id;have F:=f.cell O id;have E:=f.cell N id;have a8:=m.alloc (.cells #[jf I,jf J] 65);have a9:=HC.out b;have al:A+1<=(b.alloc (.cells #[jf I,jf J] 65)).heap.size:=ZI y.out (ja.alloc b _ (fun _=>False)).size
      go_wp2_with (first|(at_builtin;refine jy _ rfl (.tmp 28) (.tmp 34) 55 rfl (A+1) 65 j1 prZ 2 32 underlying55 ap ao an am rfl (ZM 1) _ _ _ rfl a8 ⟨b.heap.size,0,none⟩ 1 1 (qm [⟨I,J,T⟩]) rfl rfl a9 ah ay.out ax.out al ?_;intro p7 c7 w7 aj Y bq;have af:Hid (∀ i,(Value.slice pq q cq).ownBlock=some i->A+1<=i):=fun i e=>(m.lt i e).1;have b5:=(ja.grown Y).cell ((ja.alloc b _ (fun _=>False)).cell H id) (fun e=>XZ g (ZH HG.out (af.out g e.symm)));have b4:=(ja.grown Y).cell ((ja.alloc b _ (fun _=>False)).cell G id) (fun e=>XZ g (ZH HG.out (af.out g e.symm)));have b3:=(ja.grown Y).cell ((ja.alloc b _ (fun _=>False)).cell F id) (fun e=>XZ A (ZH (Nat.lt_succ_self A) (af.out A e.symm)));have b2:=(ja.grown Y).cell ((ja.alloc b _ (fun _=>False)).cell E id) (fun e=>XZ A (ZH (Nat.lt_succ_self A) (af.out A e.symm)))))
      have k7:ja w1 w7 (fun _=>False):=(D.more _).grow Y (fun i e hi=>by have:=(m.lt i e).1;have:=a5.out;omega);have bu:=k7;have av:Hid (A+1<=w7.heap.size):=jb (by have:=k7.size;rw[a5.out] at this;exact this);rw[<-Qo] at aj;go_quiet (fail);obtain⟨r,s⟩:∃ wq,wq=World.drewN w7 nq:=⟨_,rfl⟩;rw[<-s];have d:ja w7 r (fun _=>False):=by rw[s];exact ja.drewN w7 nq _
      clear s;have C:ja w1 r (fun _=>False):=k7.tt d;have k:=d.row aj (fun _ _ h=>h);have B:Hid (A+1<=r.heap.size):=ZI av.out d.size;have ad:=d.cell b5 id;have ac:=d.cell b4 id;have ab:=d.cell b3 id;have aa:=d.cell b2 id;have U:=k.alloc (.cells #[jf xk,jf xv] 65);have V:=HX.out r;have a7:A+1<=(r.alloc (.cells #[jf xk,jf xv] 65)).heap.size:=ZI B.out (ja.alloc r _ (fun _=>False)).size
      go_wp2_with (first|(at_builtin;refine jy _ rfl (.tmp 44) (.tmp 49) 55 rfl (A+1) 65 j1 prZ 2 32 underlying55 ap ao an am rfl (ZM 1) _ _ _ rfl U ⟨r.heap.size,0,none⟩ 1 1 (qm [⟨xk,xv,xg⟩]) rfl rfl V ag bw.out bv.out a7 ?_;intro p8 c8 w8 a4 aq bl))
      have k8:ja w1 w8 (fun _=>False):=(C.more _).grow aq (fun i e hi=>by have:=(k.lt i e).1;have:=a5.out;omega);rw[<-Qo] at a4;exact⟨⟨j+1,true,by simp,by omega,rfl,(show true=_ from by rw[M.out]),by rw[M.out,zW,zW,<-ak.out];exact a4,k8⟩,by simp[intOf];omega⟩
  ·have cj:¬(j:Int)<(n:Int):=by omega
   have bc:j=l.length:=by rw[<-HN.out];omega
   have bd:Hid (Rf.iw l ⟨I,J,T⟩=Rf.im ⟨I,J,T⟩ (L,dn)):=jb (by rw[jfs,<-bc,au.out]);clear bc
   cases dn with
   | true =>
    have bo:Hid (Rf.iw l ⟨I,J,T⟩=L):=jb (by rw[bd.out];rfl);go_wp2;go_ret;exact⟨_,rfl,by rw[bo.out,<-ak.out];exact xd X.out (by have:=bp.out;omega),k1.tt kk⟩
   | false =>
    have bo:Hid (Rf.iw l ⟨I,J,T⟩=L++[⟨I,J,T⟩]):=jb (by rw[bd.out];rfl);have ah:∀ u∈qm [⟨I,J,T⟩],u.oneCell'=true:=Nk _
    have HC:Hid (∀(W:World) (j':Nat) (u:Value),(qm [⟨I,J,T⟩])[j']?=some u->(W.alloc (.cells #[jf I,jf J] 65)).cell? ((⟨W.heap.size,0,none⟩:Addr).add j')=some u):=fun W j' u hu=>by
     rw[Yv,zA (je W _)];simpa [qm] using hu
    have z:=ar;have a6:=kk;have a8:=X.out.alloc (.cells #[jf I,jf J] 65);have a9:=HC.out wr;have al:A+1<=(wr.alloc (.cells #[jf I,jf J] 65)).heap.size:=ZI z.out (ja.alloc wr _ (fun _=>False)).size
    go_wp2_with (first|(at_builtin;refine jy _ rfl (.tmp 53) (.tmp 59) 55 rfl (A+1) 65 j1 prZ 2 32 underlying55 ap ao an am rfl (ZM 1) _ _ _ rfl a8 ⟨wr.heap.size,0,none⟩ 1 1 (qm [⟨I,J,T⟩]) rfl rfl a9 ah ay.out ax.out al ?_;intro p7 c7 w7 aj Y bq))
    go_ret;have k7:ja w1 w7 (fun _=>False):=(a6.more _).grow Y (fun i e hi=>by have:=(X.out.lt i e).1;have:=a5.out;omega);rw[<-Qo] at aj;exact⟨_,rfl,by rw[bo.out,zW,<-ak.out];exact xd aj (by have:=bp.out;omega),k1.tt k7⟩
theorem Rf.jbm(c:Rf.Ch)(h:Rf.jw l)(b:Rf.Live l):Rf.jw (Rf.iw l c)/\Rf.Live (Rf.iw l c)/\(Rf.iw l c).length<=l.length+1:=by
 rw[Rf.jal h b];refine⟨Rf.Jb (Rf.Jq h),Rf.vr _,?_⟩;have f:(Rf.there (Rf.ins c l)).length<=(Rf.ins c l).length:=ZT _ _;have d:=(Rf.uy c l).1;omega
theorem Rf.Hr(b:List Rf.Ch)(h:Rf.jw l)(d:Rf.Live l):Rf.jw (Rf.Xw l b)/\Rf.Live (Rf.Xw l b)/\(Rf.Xw l b).length<=l.length+b.length:=by
 induction b generalizing l with
 | nil=>exact⟨h,d,zJ _⟩
 | cons c r ih =>
  obtain⟨g,f,k⟩:=Rf.jbm c h d;obtain⟨j,i,m⟩:=ih g f;have e:Rf.Xw l (c::r)=Rf.Xw (Rf.iw l c) r:=rfl;rw[e];exact⟨j,i,by rw[zH];omega⟩
theorem Rf.Vg(l b:List Rf.Ch)(c:Rf.Ch):Rf.Xw l (b++[c])=Rf.iw (Rf.Xw l b) c:=by simp[Rf.Xw,XM]
theorem Rf.Hu(ess:List (List Rf.Ch))(c:∀ b∈ess,b.length<=8)(i:Nat):Rf.jw (Rf.zj (ess.take i))/\Rf.Live (Rf.zj (ess.take i))/\(Rf.zj (ess.take i)).length<=8*i:=by
 induction i with
 | zero=>exact⟨List.Pairwise.nil,fun x hx=>(by cases hx),zJ _⟩
 | succ i ih =>
  rw[xH]
  cases h:ess[i]? with
  | none =>
   rw[Option.toList_none,ZC];exact⟨ih.1,ih.2.1,by have:=ih.2.2;omega⟩
  | some b =>
   rw[xO,Rf.vv];obtain⟨f,d,j⟩:=Rf.Hr b ih.1 ih.2.1;have g:=c b (ZP h);exact⟨f,d,by have:=ih.2.2;omega⟩
def Wri(w:World)(v:Value)(ess:List (List Rf.Ch)):Prop:=∃ base xs,w.ownsRow base 38 1 v ess.length xs/\∀ i (h:i<ess.length),∃ x,xs[i]?=some x/\Chs w x ess[i]
theorem Wri.same{w':World}(h:Wri w v ess)(k:ja w w' (fun _=>False)):Wri w' v ess:=by
 obtain⟨base,xs,f,d⟩:=h;refine⟨base,xs,k.row f (fun _ _ h=>h),fun i hi=>?_⟩;obtain⟨x,c,b⟩:=d i hi;exact⟨x,c,b.same k⟩
theorem Wri.at(h:Wri w v ess){k:Nat}(i:k<ess.length):∃ g c x,v = .slice (some ⟨g,0,none⟩) ess.length c/\w.cell? ⟨g,k,none⟩=some x/\Chs w x ess[k]:=by
 obtain⟨base,xs,h,f⟩:=h;obtain⟨x,b,j⟩:=f k i;rcases h.2 with⟨_,q⟩|⟨g,cap,m,e,_,d,p,o,n,l⟩
 ·omega
 ·refine⟨g,cap,x,e,?_,j⟩
  rw[zA d];rw[<-l,xW] at b
  split at b
  ·simpa using b
  ·cases b
theorem Hs(v:Value)(ess:List (List Rf.Ch))(U:Wri w v ess)(Y:∀ b∈ess,b.length<=8)(n:Nat)(a0:n<=ess.length)(hn:n<=131072) :
 Calls prog 30 #[v,j6 n] w fun e w'=>∃ v',e = .returned v'/\w'.ownsRow w.heap.size 65 2 v' (Rf.zj (ess.take n)).length (qm (Rf.zj (ess.take n)))/\ja w w' (fun _=>False):=by
 obtain⟨p0,c0,rfl⟩:∃ p c,v = .slice p ess.length c:=by obtain⟨_,_,h,_⟩:=U;obtain⟨p,c,e⟩:=jl h;exact⟨p,c,e⟩
 obtain⟨L,t⟩:∃ L,L=ess.length:=⟨_,rfl⟩;have HV:=jb U;have H8:=jb Y;have HN:=jb t;have HG:=jb (Rf.Hu ess Y);rw[<-t] at a0 ⊢;clear U Y t;go_enter func30,ntmps30;go_wp2_with fail
 go_loopw [5,6,7] (fun t5 t6 t7 wr=>∃(i:Nat),t6 = .int .i64 i/\i<=n/\wr.ownsRow w.heap.size 65 2 t5 (Rf.zj (ess.take i)).length (qm (Rf.zj (ess.take i)))/\ja w wr (fun _=>False)) (fun _ t6 _ _=>n-(intOf t6).toNat)
 case atStart=>exact⟨0,rfl,zG _,by simp[Rf.zj,qm];exact ZL _ _ _ _,ja.refl _ _⟩
 case round =>
  obtain⟨i,rfl,ap,o,T⟩:=hrel;have M:=jb o;obtain⟨pq,cq,rfl⟩:=jl o;obtain⟨q,V⟩:∃ q,q=(Rf.zj (ess.take i)).length:=⟨_,rfl⟩;rw[<-V];have HQ:=jb V;clear o V;rcases zV i n with ao|ar
  ·have a2:(i:Int)<(n:Int):=by omega
   have an:IntKind.i64.wrap ((i:Int)+1)=(i:Int)+1:=zE (by omega) (by omega);have H:i<ess.length:=by rw[<-HN.out];omega
   have aq:(i:Int)<(L:Int):=by omega
   have B:=jb H;obtain⟨S,m⟩:∃ S,S=wr:=⟨_,rfl⟩;have au:=jb m;have av:Hid (ja w S (fun _=>False)):=by rw[m];exact T
   clear m H;go_wp2_with fail
   go_loopw [5,7] (fun t5 t7 wr2=>∃(k:Nat),t7 = .int .i64 k/\k<=(ess[i]'B.out).length/\wr2.ownsRow w.heap.size 65 2 t5 (Rf.Xw (Rf.zj (ess.take i)) ((ess[i]'B.out).take k)).length (qm (Rf.Xw (Rf.zj (ess.take i)) ((ess[i]'B.out).take k)))/\ja w wr2 (fun _=>False)) (fun _ t7 _=>(ess[i]'B.out).length-(intOf t7).toNat)
   case atStart=>exact⟨0,rfl,zG _,by rw[List.take_zero];show World.ownsRow _ _ _ _ _ (Rf.zj (ess.take i)).length (qm (Rf.zj (ess.take i)));rw[HQ.out];exact M.out,T⟩
   case round =>
    obtain⟨k,rfl,F,r,f⟩:=hrel;have A:=jb r;obtain⟨pk,ck,rfl⟩:=jl r;obtain⟨g,cg,x,eg,c1,j⟩:=(HV.out.same f).at B.out;injection eg with eg1 eg2 eg3;subst eg1;clear eg2 eg3;have I:=H8.out _ (xV B.out);have d:=HG.out i;have y:=Rf.Hr ((ess[i]'B.out).take k) d.1 d.2.1;have D:((ess[i]'B.out).take k).length<=k:=List.length_take_le _ _;obtain⟨b,R⟩:∃ b,b=(ess[i]'B.out):=⟨_,rfl⟩;obtain⟨pb,cb,rfl⟩:∃ p c,x = .slice p b.length c:=by obtain⟨p,c,e,_⟩:=j;rw[R];exact⟨p,c,e⟩
    rw[<-R] at j I y D A ⊢ F;have HB:=jb R;obtain⟨C,u⟩:∃ C,C=b.length:=⟨_,rfl⟩;have a6:=jb j;have N:=jb u;rw[<-u] at F I c1 ⊢;clear R u r j;obtain⟨q2,s⟩:∃ q,q=(Rf.Xw (Rf.zj (ess.take i)) (b.take k)).length:=⟨_,rfl⟩;have X:Prs wr (.slice pk (Rf.Xw (Rf.zj (ess.take i)) (b.take k)).length ck) (Rf.Xw (Rf.zj (ess.take i)) (b.take k)):=⟨_,A.out⟩;have a4:Hid ((Rf.Xw (Rf.zj (ess.take i)) (b.take k)).length<1100000):=(show _<_ from by have:=y.2.2;have:=d.2.2;omega);have a3:=jb s;rw[<-s] at X ⊢;have HP:=jb X;clear y d D X s;rcases zV k C with W|W
    ·have a1:(k:Int)<(C:Int):=by omega
     have am:IntKind.i64.wrap ((k:Int)+1)=(k:Int)+1:=zE (by omega) (by omega);have z:k<b.length:=by rw[<-N.out];exact W
     obtain⟨bb,bo,rfl,d0,d1,d2⟩:=a6.out.at z;have J:Hid (Rf.Xw (Rf.zj (ess.take i)) (b.take (k+1))=Rf.iw (Rf.Xw (Rf.zj (ess.take i)) (b.take k)) b[k]):=(show _=_ from by rw[xH,xB z,xO,Rf.Vg]);have l:=jb (jd2 _ _ HP.out a4.out b[k]);generalize b[k]=x at d0 d1 d2 J l;obtain⟨xk,xv,xg⟩:=x;simp only at d0 d1 d2;clear z;go_wp2_with fail;refine l.out.mono ?_;rintro e w3 ⟨v3,rfl,Z,k3⟩;go_wp2;exact⟨⟨k+1,by simp,by omega,by rw[J.out];exact xd Z f.size,f.tt k3⟩,by simp[intOf];omega⟩
    ·have a1:¬(k:Int)<(C:Int):=by omega
     have E:b.take k=b:=xF (by rw[<-N.out];exact W);have a5:Hid (Rf.zj (ess.take (i+1))=Rf.Xw (Rf.zj (ess.take i)) (b.take k)):=(show _=_ from by rw[E,xH,xB B.out,xO,Rf.vv,<-HB.out]);clear E;go_wp2;exact⟨⟨i+1,by simp,by omega,by rw[a5.out,a3.out];exact A.out,f⟩,by simp[intOf];omega⟩
  ·have a2:¬(i:Int)<(n:Int):=by omega
   have G:ess.take i=ess.take n:=by rw[show i=n from by omega]
   have O:=jb G;clear G;go_wp2;go_ret;exact⟨_,rfl,by have:=M.out;rw[O.out] at this;rw[HQ.out,O.out];exact this,T⟩
def Qr(S:jc)(nm:Str):Nat:=(S.at nm).elim 0 (fun f=>(xm S.files f).length)
theorem Rv{S:jc}{V:List (Str×List UInt8)}(h:View S V):(S.keys.map (Qr S)).sum=qu V:=by
 obtain⟨T,F,p⟩:=h;have b:S.keys.Perm (T.map Prod.fst):=(xU _ _).trans F.X2.keys;rw[Ad (b.map _),Fm p];unfold qu Qm;rw[ZE,ZE];congr 1;refine ZR (fun q hq=>?_)
 have e:S.at q.1=some q.2:=by
  unfold jc.at
  rw[F.X2.at (n:=q.1) (f:=q.2) hq];rfl
 show Qr S q.1=_;unfold Qr;rw[e];rfl
theorem jde{ρ:Nat->j3}{d:Nat}{S:jc}(nm:Str)(R:Rep w ρ d S)(Z:Small S)(g:nm.length<1099511627776) :
 Calls prog 46 #[.pointer (some ⟨d,0,none⟩),jf nm] w fun e w'=>∃ p c ok,e = .returned (.tuple #[.slice p (Qr S nm) c,.bool ok])/\ja w w' (fun _=>False):=by
 refine(Ro nm R Z g).mono ?_;rintro e w' ⟨b,⟨h,rfl⟩|⟨f,a,p,c,h,i,rfl,_⟩⟩
 ·have:Qr S nm=0:=by unfold Qr;rw[h];rfl
  rw[this];exact⟨none,0,false,rfl,b⟩
 ·have:Qr S nm=a.bytes.length:=by unfold Qr xm;rw[h];simp[i]
  rw[this];exact⟨p,c,true,rfl,b⟩
def z7(S:jc)(i:Nat):Nat:=((S.keys.take i).map (Qr S)).sum
theorem Hh(S:jc)(i:Nat):z7 S i<=z7 S S.keys.length:=by
 unfold z7;rw[xR];have h:S.keys=S.keys.take i++S.keys.drop i:=(xQ i S.keys).symm
 have:(S.keys.map (Qr S)).sum=((S.keys.take i).map (Qr S)).sum+((S.keys.drop i).map (Qr S)).sum:=by
  conv=>lhs;rw[h]
  rw[xP,List.sum_append]
 omega
theorem Nu(S:jc)(h:i<S.keys.length):z7 S (i+1)=z7 S i+Qr S S.keys[i]:=by
 unfold z7;rw[xH,xB h,xO,xP,List.sum_append];simp
theorem Wv{base:Nat}{p:Option Addr}{c:Nat}{K:List Str}(h:w.ownsRow base 9 1 (.slice p K.length c) K.length (K.map encStr))(f:i<K.length):∃ g,p=some ⟨g,0,none⟩/\w.cell? ⟨g,i,none⟩=some (jf K[i]):=by
 rcases h.2 with⟨_,o⟩|⟨g,cap,k,e,_,d,n,m,l,j⟩
 ·omega
 ·injection e with e1 e2 e3
  refine⟨g,e1,?_⟩;have b:(K.map encStr)[i]?=some (jf K[i]):=by rw[ZN,xB f];rfl
  rw[zA d];rw[<-j,xW] at b
  split at b
  ·simpa using b
  ·cases b
end Go.Proofs.YtnipbplghijdmaaGreatDoor
