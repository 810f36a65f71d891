/-
  D: Names Names2 ManFrame ManRead2 ManRead3.
-/
import Derived.Test.YtnipbplghijdmaaGreatDoorD08
import Derived.Test.YtnipbplghijdmaaGreatDoorD14
import Derived.Test.YtnipbplghijdmaaGreatDoorD02
set_option maxRecDepth 100000
set_option maxHeartbeats 8000000
set_option linter.unusedVariables false
set_option linter.unusedSimpArgs false
namespace Go.Proofs.YtnipbplghijdmaaGreatDoor
open RowKit Maps WideShapes Go.Proofs.Tryz
variable {E:Nat->Addr} {B b c g k n r s:Nat} {w w' wr:World} {T:Nat->Prop} {rv v y0 y1 y2 y3 y4:Value} {l xs:List Nat} {p:Option Addr} {q:List UInt8} {t u:Tmp} {fz:Nat×Nat}
structure Env(E:Nat->Addr)(B:Nat)(w:World):Prop where
 z8:Xg E B w
 tab:∃ t fz,w.heap[5]?=some (.cells (Lib.pow10Tab.map fun z=>Value.int .u64 z).toArray t fz)
 jgd:5<B
theorem Env.keep(h:Env E B w)(b:ja w w' T)(c:∀ i,T i->B<=i):Env E B w':=by
 refine⟨h.z8.keep b c,?_,h.jgd⟩;obtain⟨t,fz,d⟩:=h.tab;exact⟨t,fz,b.same d (fun hh=>by have g:=c _ hh;have f:=h.jgd;omega)⟩
theorem Env.same(h:Env E B w)(b:ja w w' (fun _=>False)):Env E B w':=h.keep b (fun _ h=>h.elim)
theorem Env.jhm(h:Env E B w):Lib.TabIs prog w "internal/strconv.uint64pow10" .u64 Lib.pow10Tab:=by
 obtain⟨t,fz,b⟩:=h.tab;have c:prog.globalNamed "internal/strconv.uint64pow10"=some 5:=by kernel_rfl
 unfold Lib.TabIs World.var?;rw[c];simp[b]
theorem ja.jh9(w:World)(k:Nat)(os:Array Obj)(T:Nat->Prop):ja w (Sort.grow (w.drewN k) os) T :=
 ⟨rfl,rfl,rfl,by simp[Sort.grow,World.drewN],fun i hi _=>by simp only[Sort.grow,World.drewN];rw[Array.getElem?_append_left hi]⟩
theorem Rf.Vz(n:Nat):Rf.Q4 n=Lib.decDigits n:=by
 induction n using Nat.strongRecOn with
 | ind n ih =>
  rw[Rf.Q4,Lib.decDigits]
  split
  ·rfl
  ·rw[ih _ (by omega)]
theorem Sl(n:Nat)(b:n<=9223372036854775807)(H:Env E B w) :
 Calls prog 104 #[.int .i64 n] w fun e w'=>e = .returned (jf (Rf.Q4 n))/\ja w w' (fun _=>False):=by
 refine(Tryz.strconv_Itoa (n:Int) (by omega) (by omega) w H.jhm).mono ?_;rintro e w' ⟨rfl,k,os,rfl⟩;exact⟨by rw[Lib.itoa_nonneg,Rf.Vz],ja.jh9 w k os _⟩
theorem Ti:∀(k n:Nat),n<10^(k+1)->(Rf.Q4 n).length<=k+1:=by
 intro k
 induction k with
 | zero=>intro n h;rw[Rf.Q4,dif_pos (by omega)];simp
 | succ k ih =>
  intro n h;rw[Rf.Q4]
  split
  ·simp
  ·have:=ih (n/10) (by rw[Nat.div_lt_iff_lt_mul (by omega)];rw[Nat.pow_succ] at h;exact h)
   simp;omega
theorem yj(h:n<=9223372036854775807):(Rf.Q4 n).length<=19:=Ti 18 n (by omega)
theorem Ms(a b:List UInt8):(⟨a.toArray⟩:ByteArray)++⟨b.toArray⟩=⟨(a++b).toArray⟩:=by
 apply ByteArray.ext;simp[ByteArray.data_append]
def jh(n:Nat):Str:=[108,111,103,45]++Rf.Q4 n
def jo(n:Nat):Str:=[114,117,110,45]++Rf.Q4 n
theorem Qs(n:Nat)(b:n<=9223372036854775807)(H:Env E B w) :
 Calls prog 63 #[.int .i64 n] w fun e w'=>e = .returned (jf (jh n))/\ja w w' (fun _=>False):=by
 have d:=yj b;go_enter func63,ntmps63
 go_wp2_with (go_at_call 104;refine(Sl n b H).mono ?_;rintro e w' ⟨rfl,c⟩)
 go_ret;exact⟨congrArg (fun x=>Ending.returned (.string x)) (Ms [108,111,103,45] (Rf.Q4 n)),c⟩
theorem gk(n:Nat)(b:n<=9223372036854775807)(H:Env E B w) :
 Calls prog 115 #[.int .i64 n] w fun e w'=>e = .returned (jf (jo n))/\ja w w' (fun _=>False):=by
 have d:=yj b;go_enter func115,ntmps115
 go_wp2_with (go_at_call 104;refine(Sl n b H).mono ?_;rintro e w' ⟨rfl,c⟩)
 go_ret;exact⟨congrArg (fun x=>Ending.returned (.string x)) (Ms [114,117,110,45] (Rf.Q4 n)),c⟩
abbrev jg(n:Nat):Value:= .int .i64 n
def Jw(w:World)(v:Value)(l:List Nat):Prop :=
 ∃ p c,v = .slice p l.length c/\l.length<=c/\c<=maxLen/\(p=none->c=0)/\∀ ad,p=some ad->ad.spot=none/\∀ j u,l[j]?=some u->w.cell? (ad.add j)=some (jg u)
theorem Jw.keep(h:Jw w v l)(d:ja w w' T)(f:l≠[]->∀ p n c,v = .slice (some p) n c->¬T p.block):Jw w' v l:=by
 obtain⟨p,c,rfl,k,i,g,b⟩:=h;exact⟨p,c,rfl,k,i,g,fun ad e=>⟨(b ad e).1,fun j u hu=>d.cell ((b ad e).2 j u hu) (by rw[Ju];exact f (fun e=>by rw[e] at hu;cases hu) ad _ _ (by rw[e]))⟩⟩
theorem Jw.same(h:Jw w v l)(b:ja w w' (fun _=>False)):Jw w' v l:=h.keep b (fun _ _ _ _ _ h=>h)
theorem Jw.nil(w:World):Jw w (.slice none 0 0) []:=⟨none,0,rfl,zJ _,zG _,fun _=>rfl,fun _ h=>by cases h⟩
theorem Jz{base:Nat}(h:w.ownsRow base 3 1 v n (l.map jg))(b:l.length=n):Jw w v l:=by
 subst b;rcases h.2 with⟨e,f⟩|⟨g,cap,k,e,_,i,d,c,_⟩
 ·have:l=[]:=zT f
  subst this;rw[e];exact Jw.nil w
 ·refine⟨some ⟨g,0,none⟩,cap,e,d,c,(fun h=>by cases h),fun ad had=>?_⟩
  cases had;exact⟨rfl,fun j u hu=>h.cells (by rw[e];rfl) j _ (by rw[ZN,hu];rfl)⟩
theorem Jw.at(h:Jw w (.slice p l.length c) l)(f:k<l.length):∃ b o,p=some ⟨b,o,none⟩/\w.cell? ⟨b,o+k,none⟩=some (jg l[k]):=by
 obtain⟨m,r,e,q,n,j,i⟩:=h;cases e
 cases p with
 | none=>have:=j rfl;omega
 | some ad =>
  obtain⟨b,o,s⟩:=ad;obtain⟨d,g⟩:=i _ rfl;simp only at d;subst d;refine⟨b,o,rfl,?_⟩;have:=g k l[k] (by simp[f]);rwa [Yv] at this
theorem Sh(h:Below B w w')(b:w.heap.size<=B):ja w w' (fun _=>False):=⟨h.os,h.tape,h.output,h.size,fun k hk _=>h.block k (ZH hk b)⟩
theorem iz(w:World)(v:Value)(l:List Nat)(m:Jw w v l)(i:l.length<1099511627776) :
 Calls prog 74 #[v] w fun e w'=>∃ p c,e = .returned (.slice p l.length c)/\w'.ownsRow w.heap.size 3 1 (.slice p l.length c) l.length (l.map jg)/\ja w w' (fun _=>False):=by
 obtain⟨p,c,rfl,z,y,t,r⟩:=m
 cases p with
 | none =>
  have:c=0:=t rfl;have i:l=[]:=zT (by omega);subst i;refine(Tryz.slices_Clone_int_nil _ c w).mono ?_;rintro e w' ⟨rfl,rfl⟩;exact⟨none,0,rfl,ZL _ _ _ _,ja.refl _ _⟩
 | some ad =>
  obtain⟨b,o,s⟩:=ad;obtain⟨g,n⟩:=r _ rfl;simp only at g;subst g;refine(Tryz.slices_Clone_int b o l.length c (l.map Int.ofNat) w (by simp) (by omega) (fun j hj=>?_)).mono ?_
  ·have f:j<l.length:=by simpa using hj
   have:=n j l[j] (by simp[f]);rw[Yv] at this;rw[this];simp[f]
  ·rintro e w' ⟨v',rfl,d,_,q⟩
   obtain⟨k,x,rfl⟩:=jl d;refine⟨k,x,rfl,?_,Sh q (zJ _)⟩
   have u:((l.map Int.ofNat).take l.length).map (Value.int .i64)=l.map jg:=by
    rw[xF (by simp)];simp
   rw[u] at d;exact d
abbrev iu(m:Rf.Man)(rv:Value):Value:= .agg #[jg m.next,jg m.last,jg m.log,jg m.base,rv]
theorem Tryz.Fg:(prog.info? 3).map (fun i=>(i.zero,i.size,i.bytes))=some (some (.int .i64 0),1,8):=by kernel_rfl
theorem aw(w:World)(m:Rf.Man)(rv:Value)(l:Jw w rv m.runs)(I:m.runs.length<1048576) :
 Calls prog 121 #[iu m rv] w fun e w'=>∃ p c,e = .returned (.slice p m.settled.length c)/\w'.ownsRow w.heap.size 3 1 (.slice p m.settled.length c) m.settled.length (m.settled.map jg)/\ja w w' (fun _=>False):=by
 obtain⟨H,J,t,s,r⟩:=info_parts Tryz.Fg;obtain⟨next,last,log,base,runs⟩:=m;simp only at l I;obtain⟨F,O,rfl,_⟩:=id l;have j:=ja.alloc w (.cells #[jg next,jg last,jg log,jg base,.slice F runs.length O] 117) (fun _=>False);have L:Rf.Man.settled ⟨next,last,log,base,runs⟩=if base=0 then runs else runs++[base]:=rfl
 rw[L];rcases zN base with E|E
 ·subst E
  rw[if_pos rfl];go_enter func121,ntmps121;go_wp2_with fail;refine(iz _ _ runs (l.same j) (by omega)).mono ?_;rintro e n ⟨p,c,rfl,b,g⟩;have i:=g.same (je w _) id;have q:=zA (o:=3) i;simp at q;clear i;go_wp2;go_ret;exact⟨p,c,rfl,xd b (by simp),j.tt g⟩
 ·rw[if_neg (by omega)]
  have S:((base:Int) != 0)=true:=by simp;omega
  have R:((base:Int)==0)=false:=by simp;omega
  go_enter func121,ntmps121;go_wp2_with fail;refine(iz _ _ runs (l.same j) (by omega)).mono ?_;rintro e n ⟨p,c,rfl,b,g⟩;have i:=g.same (je w _) id;have q:=zA (o:=3) i;simp at q;clear i;have d:=(xd b (base':=w.heap.size) (by simp)).alloc (.cells #[jg base] 3);have M:∀ u∈[jg base],u.oneCell'=true:=by intro u D;simp at D;subst D;rfl
  have A:Hid (runs.length+1<=maxLen):=by unfold Hid maxLen;omega
  have y:Hid ((runs.length+1)*8<=140737488355328):=by unfold Hid;omega
  have z:w.heap.size<=(n.alloc (.cells #[jg base] 3)).heap.size:=by have:=g.size;simp at this;simp;omega
  go_wp2_with (first|(at_builtin;go_must (refine jy _ rfl (.tmp 10) (.tmp 13) 39 rfl w.heap.size 3 H (.int .i64 0) 1 8 underlying39 J t s r rfl ZJ _ _ _ rfl d ⟨n.heap.size,0,none⟩ 1 1 [jg base] rfl rfl (cell_one_new _ _ _) M A.out y.out z ?_);intro G B T f x C)|go_in)
  go_ret;have N:(runs++[base]).length=runs.length+1:=by simp
  rw[N];refine⟨G,B,rfl,by simpa using f,?_⟩;have v:=b.lt;exact((j.tt g).more _).grow x (fun k e hk=>by have:=(v k e).1;simp at this;omega)
theorem Yd(b:Array Value)(w:World):(callFunc 121 b).run prog w = .ok (.enter 121 b) w:=by kernel_rfl
theorem xy(m:Rf.Man):m.settled.length<=m.runs.length+1:=by unfold Rf.Man.settled;split<;>simp
theorem Ns(n:Nat):∀ u∈[jg n],u.oneCell'=true:=by intro u b;simp at b;subst b;rfl
theorem Ru(w:World)(m:Rf.Man)(rv:Value)(F:Jw w rv m.runs)(R:m.runs.length<1048576) :
 Calls prog 244 #[iu m rv] w fun e w'=>∃ p c,e = .returned (.slice p m.numbers.length c)/\w'.ownsRow w.heap.size 3 1 (.slice p m.numbers.length c) m.numbers.length (m.numbers.map jg)/\ja w w' (fun _=>False):=by
 obtain⟨O,T,x,v,u⟩:=info_parts Tryz.Fg;have y:=xy m;have H:m.numbers=m.settled++[m.log]:=rfl;have A:m.numbers.length=m.settled.length+1:=by rw[H];simp
 rw[A];have I:=jb H;clear H A;have f:=fun w' (h:Jw w' rv m.runs)=>aw w' m rv h R;obtain⟨next,last,log,base,runs⟩:=m;simp only at F R y f;obtain⟨j,l,rfl,_⟩:=id F;generalize Rf.Man.settled ⟨next,last,log,base,runs⟩=S at y f I ⊢;generalize Rf.Man.numbers ⟨next,last,log,base,runs⟩=NN at I ⊢;have s:=ja.alloc w (.cells #[jg next,jg last,jg log,jg base,.slice j runs.length l] 117) (fun _=>False);have V:=je w (.cells #[jg next,jg last,jg log,jg base,.slice j runs.length l] 117);have L:Jw (w.alloc (.cells #[jg next,jg last,jg log,jg base,.slice j runs.length l] 117)).drew (.slice j runs.length l) runs:=F.same s.draw;have J:∀ o,Jw ((w.alloc (.cells #[jg next,jg last,jg log,jg base,.slice j runs.length l] 117)).alloc o).drew (.slice j runs.length l) runs:=fun o=>F.same (s.more o).draw;have B:Hid (S.length+1<=maxLen):=by unfold Hid maxLen;omega
 have z:Hid ((S.length+1)*8<=140737488355328):=by unfold Hid;omega
 have Z:=jb V
 have D:Hid (∀ o,((w.alloc (.cells #[jg next,jg last,jg log,jg base,.slice j runs.length l] 117)).alloc o).heap[w.heap.size+1]?=some o):=by
  intro o;have:=je (w.alloc (.cells #[jg next,jg last,jg log,jg base,.slice j runs.length l] 117)) o;rwa [show(w.alloc (.cells #[jg next,jg last,jg log,jg base,.slice j runs.length l] 117)).heap.size=w.heap.size+1 by simp] at this
 clear V;go_enter func244,ntmps244;go_wp2_with fail
 go_region_law (first
  | (refine jx rfl 121 [.tmp 3] _ rfl Yd _ rfl (f _ ?_) ?_
     exact L
     rintro e E ⟨W,Y,rfl,d,t⟩
     have g:ja w E (fun _=>False):=ja.trans s.draw t (fun _ _ h=>h)
     have U:=t.same Z.out id
     have X:=zA (o:=2) U
     simp at X
     clear U
     have b:=xd d (base':=w.heap.size) s.size
     refine⟨_,rfl,?_⟩)
  | (refine jx rfl 121 [.tmp 3] _ rfl Yd _ rfl (f _ ?_) ?_
     exact J _
     rintro e E ⟨W,Y,rfl,d,t⟩
     have g:ja w E (fun _=>False):=ja.trans (s.more _).draw t (fun _ _ h=>h)
     have b:=xd d (base':=w.heap.size) (s.more _).size
     have q:=t.same (D.out (.cells #[jg log] 3)) id
     refine⟨_,rfl,?_⟩)
  | (refine ye rfl (.tmp 4) (.tmp 7) 39 rfl w.heap.size 3 O (.int .i64 0) 1 8 underlying39 T x v u rfl ZJ _ _ _ rfl (b.alloc _) ⟨E.heap.size,0,none⟩ 1 1 [jg log] rfl rfl (cell_one_new _ _ _) (Ns log) B.out z.out (g.more _).size ?_
     intro M C G i n r
     have N:ja w G (fun _=>False):=(g.more _).grow n (fun k e hk=>by have:=(b.lt k e).1;omega))
  | (refine ye rfl (.tmp 4) (.tmp 7) 39 rfl w.heap.size 3 O (.int .i64 0) 1 8 underlying39 T x v u rfl ZJ _ _ _ rfl b _ 1 1 [jg log] rfl rfl (J8 q rfl) (Ns log) B.out z.out g.size ?_
     intro M C G i n r
     have N:ja w G (fun _=>False):=g.grow n (fun k e hk=>by have:=(b.lt k e).1;omega)))
 all_goals
  go_wp2;go_ret;refine⟨M,C,rfl,?_,N⟩;rw[I.out];simpa using i
theorem strCells(l:List Str):∀ u∈l.map jf,u.oneCell'=true:=by
 intro u b;obtain⟨_,_,rfl⟩:=zS.1 b;rfl
theorem Nr(s:Str):∀ u∈[jf s],u.oneCell'=true:=strCells [s]
theorem l8(v:Value)(l:List Nat)(H:Env E B w)(J:Jw w v l)(X:l.length<1048577)(T:∀ n∈l,n<=9223372036854775807) :
 Calls prog 120 #[v] w fun e w'=>∃ p c,e = .returned (.slice p l.length c)/\w'.ownsRow w.heap.size 9 1 (.slice p l.length c) l.length ((l.map jo).map jf)/\ja w w' (fun _=>False):=by
 obtain⟨S,L,x,u,t⟩:=info_parts Tryz.Ax;obtain⟨pv,cv,rfl,_⟩:=id J;go_enter func120,ntmps120;go_wp2_with fail
 go_loopw [3,8] (fun b i wr=>∃(k:Nat) (p:Option Addr) (c:Nat),k<=l.length/\i = .int .i64 k/\b = .slice p k c /\
  wr.ownsRow w.heap.size 9 1 (.slice p k c) k (((l.take k).map jo).map jf)/\ja w wr (fun _=>False))
  (fun _ i _=>l.length-(intOf i).toNat)
 case atStart=>exact⟨0,none,0,zG _,rfl,rfl,ZL _ _ _ _,ja.refl _ _⟩
 case round =>
  obtain⟨k,p,c,Y,rfl,rfl,d,q⟩:=hrel;rcases zV k l.length with r|W
  ·obtain⟨b,o,rfl,Z⟩:=(J.same q).at r
   have y:=T l[k] (xV r);have V:=H.same q;go_wp2_with fail;refine(gk l[k] y V).mono ?_;rintro e N ⟨rfl,I⟩;have G:=q.tt I;have m:=I.row d (fun _ _ h=>h);have s:=m.alloc (.cells #[jf (jo l[k])] 9);have C:Hid (k+1<=maxLen):=by unfold Hid maxLen;omega
   have A:Hid ((k+1)*16<=140737488355328):=by unfold Hid;omega
   have f:((l.take (k+1)).map jo).map jf=((l.take k).map jo).map jf++[jf (jo l[k])]:=by
    rw[XG r,xP,xP];rfl
   have HS:=jb f;clear f d
   go_wp2_with (first|(at_builtin;go_must (refine jy _ rfl (.tmp 12) (.tmp 15) 40 rfl w.heap.size 9 S (.string ⟨#[]⟩) 1 16 underlying40 L x u t rfl ZJ _ _ _ rfl s ⟨N.heap.size,0,none⟩ 1 1 [jf (jo l[k])] rfl rfl (cell_one_new _ _ _) (Nr _) C.out A.out (G.more _).size ?_);intro O D M g z F)|go_in)
   have R:ja w M (fun _=>False):=(G.more _).grow z (fun j e L=>by have:=(m.lt j e).1;omega);rw[<-HS.out] at g;exact⟨⟨k+1,O,D,by omega,by simp,rfl,g,R⟩,by simp[intOf];omega⟩
  ·have U:k=l.length:=by omega
   subst U;rw[xR] at d;go_wp2;go_ret;exact⟨p,c,rfl,d,q⟩
def jt(m:Rf.Man):List Str:=m.settled.map jo++[jh m.log]
theorem fj(b:Array Value)(w:World):(callFunc 120 b).run prog w = .ok (.enter 120 b) w:=by kernel_rfl
theorem Jv(b:Array Value)(w:World):(callFunc 63 b).run prog w = .ok (.enter 63 b) w:=by kernel_rfl
theorem Aq(m:Rf.Man)(rv:Value)(H:Env E B w)(x:Jw w rv m.runs)(hl:m.runs.length<1048576)(y:∀ n∈m.settled,n<=9223372036854775807)(f:m.log<=9223372036854775807) :
 Calls prog 165 #[iu m rv] w fun e w'=>∃ p c,e = .returned (.slice p (jt m).length c)/\w'.ownsRow w.heap.size 9 1 (.slice p (jt m).length c) (jt m).length ((jt m).map jf)/\ja w w' (fun _=>False):=by
 obtain⟨j0,hj,G,F,D⟩:=info_parts Tryz.Ax;have q:=xy m;have z:jt m=m.settled.map jo++[jh m.log]:=rfl;have s:(jt m).length=m.settled.length+1:=by rw[z];simp
 rw[s];have v:=jb z;clear z s;have b:=fun w' (h:Jw w' rv m.runs)=>aw w' m rv h hl;generalize jt m=FF at v ⊢;obtain⟨next,last,log,base,runs⟩:=m;simp only at x hl q b y f v;obtain⟨t,u,rfl,_⟩:=id x;generalize Rf.Man.settled ⟨next,last,log,base,runs⟩=S at q b v y ⊢;have W:=ja.alloc w (.cells #[jg next,jg last,jg log,jg base,.slice t runs.length u] 117) (fun _=>False);have hT:=je w (.cells #[jg next,jg last,jg log,jg base,.slice t runs.length u] 117);have I:Jw (w.alloc (.cells #[jg next,jg last,jg log,jg base,.slice t runs.length u] 117)).drew (.slice t runs.length u) runs:=x.same W.draw;have O:Hid (S.length+1<=maxLen):=by unfold Hid maxLen;omega
 have M:Hid ((S.length+1)*16<=140737488355328):=by unfold Hid;omega
 have J:S.length<1048577:=by omega
 have HT:=jb hT;clear hT;go_enter func165,ntmps165;go_wp2_with fail
 go_region_law (first
  | (refine jx rfl 121 [.tmp 3] _ rfl Yd _ rfl (b _ I) ?_
     rintro e w1 ⟨p1,c1,rfl,l,Z⟩
     have C:ja w w1 (fun _=>False):=ja.trans W.draw Z (fun _ _ h=>h)
     have g:=Z.same HT.out id
     have A:=zA (o:=2) g
     simp at A
     have T:=jb g
     clear g
     have N:=Jz l rfl
     refine⟨_,rfl,?_⟩)
  | (refine jx rfl 120 [.tmp 4] _ rfl fj _ rfl (l8 _ S (H.same C) N J y) ?_
     rintro e w2 ⟨p2,ac,rfl,j,Y⟩
     have K2:ja w w2 (fun _=>False):=C.tt Y
     have r:=Y.same T.out id
     have A:=zA (o:=2) r
     simp at A
     clear r
     refine⟨_,rfl,?_⟩)
  | (refine jx rfl 63 [.tmp 7] _ rfl Jv _ rfl (Qs log f (H.same K2)) ?_
     rintro e V ⟨rfl,X⟩
     have K3:ja w V (fun _=>False):=K2.tt X
     have d:=xd (X.row j (fun _ _ h=>h)) (base':=w.heap.size) C.size
     refine⟨_,rfl,?_⟩)
  | (refine ye rfl (.tmp 5) (.tmp 9) 40 rfl w.heap.size 9 j0 (.string ⟨#[]⟩) 1 16 underlying40 hj G F D rfl ZJ _ _ _ rfl (d.alloc _) ⟨V.heap.size,0,none⟩ 1 1 [jf (jh log)] rfl rfl (cell_one_new _ _ _) (Nr _) O.out M.out (K3.more _).size ?_
     intro p4 R w4 i L U
     have kk:ja w w4 (fun _=>False):=(K3.more _).grow L (fun k e hk=>by have:=(d.lt k e).1;omega)))
 all_goals
  go_wp2;go_ret;refine⟨p4,R,rfl,?_,kk⟩;rw[v.out];simpa using i
theorem ab{next:Nat}{j g f d:Value}(h:w.heap[b]?=some (.cells #[jg next,j,g,f,d] 117 (0,0)))(l:next<2000000000) :
 Calls prog 110 #[.pointer (some ⟨b,0,none⟩)] w fun e w'=>e = .returned (.tuple #[jg next,.nilIface])/\w'.heap[b]?=some (.cells #[jg (next+1),j,g,f,d] 117 (0,0))/\ja w w' (fun i=>i=b):=by
 have m:=zA (o:=0) h;have q:=zB (o:=0) h;simp at m;have k:=jb h;clear h;have p:decide ((2000000000:Int)<=(next:Int))=false:=by rw[decide_eq_false_iff_not];omega
 have n:(next:Int)<2000000000:=by omega
 have c:(w.setCell ⟨b,0,none⟩ (.int .i64 ((next:Int)+1))).cell? ⟨b,0,none⟩=some (.int .i64 ((next:Int)+1)):=by
  rw[zA (jd k.out _)];simp
 clear l;go_enter func110,ntmps110;go_wp2;go_ret2;refine⟨by simp,?_,ja.setCell w _ _⟩;rw[jd k.out];simp
abbrev ke(l:List Nat):List UInt8:=l.flatMap fun r=>Rf.big r 8
theorem gy(l:List Nat):(ke l).length=8*l.length:=by
 induction l with
 | nil=>rfl
 | cons x r ih=>simp only[ke,ZV,zW,Rf.js,zH] at ih ⊢;omega
theorem so(h:k<l.length):ke (l.take (k+1))=ke (l.take k)++Rf.big l[k] 8:=by
 rw[XG h];simp only[ke,XT,ZV,List.flatMap_nil,ZC]
theorem Nx(w:World)(m:Rf.Man)(rv:Value)(X:Jw w rv m.runs)(hl:m.runs.length<1048576)(hg:m.next<18446744073709551616/\m.last<18446744073709551616/\m.log<18446744073709551616/\m.base<18446744073709551616/\∀ r∈m.runs,r<18446744073709551616)(S:(m.next:Int)<=9223372036854775807/\(m.last:Int)<=9223372036854775807/\(m.log:Int)<=9223372036854775807/\(m.base:Int)<=9223372036854775807/\∀ r∈m.runs,(r:Int)<=9223372036854775807) :
 Calls prog 166 #[iu m rv] w fun e w'=>∃ p c,e = .returned (.slice p m.bytes.length c)/\w'.ownsRow w.heap.size 5 1 (.slice p m.bytes.length c) m.bytes.length (m.bytes.map j5)/\ja w w' (fun _=>False):=by
 obtain⟨next,last,log,base,runs⟩:=m;simp only at X hl hg S;obtain⟨g1,g2,g3,g4,g5⟩:=hg;obtain⟨i1,i2,i3,i4,i5⟩:=S;have hB:Rf.Man.bytes ⟨next,last,log,base,runs⟩=Rf.frame (ke [next,last,log,base]++Rf.big runs.length 2++ke runs):=by simp[Rf.Man.bytes,Rf.ff,ke]
 have R:=jb hB;clear hB;generalize Rf.Man.bytes ⟨next,last,log,base,runs⟩=BB at R ⊢;obtain⟨Z,cr,rfl,_⟩:=id X;have kA:=ja.alloc w (.cells #[jg next,jg last,jg log,jg base,.slice Z runs.length cr] 117) (fun _=>False);have H:=je w (.cells #[jg next,jg last,jg log,jg base,.slice Z runs.length cr] 117);generalize hwA:w.alloc (.cells #[jg next,jg last,jg log,jg base,.slice Z runs.length cr] 117)=wA at kA H;have kL:=ja.alloc wA (.cells #[jg next,jg last,jg log,jg base] 3) (fun _=>False);have hL:=je wA (.cells #[jg next,jg last,jg log,jg base] 3)
 have D:∀ x∈[next,last,log,base],x<18446744073709551616/\(x:Int)<=9223372036854775807:=by
  intro x hx;simp at hx;rcases hx with rfl|rfl|rfl|rfl
  ·exact⟨g1,i1⟩
  ·exact⟨g2,i2⟩
  ·exact⟨g3,i3⟩
  ·exact⟨g4,i4⟩
 have G:=jb D;clear D g1 g2 g3 g4 i1 i2 i3 i4;have a0:=zA (o:=0) H;have a1:=zA (o:=1) H;have a2:=zA (o:=2) H;have a3:=zA (o:=3) H;simp at a0 a1 a2 a3
 have B:Jw (wA.alloc (.cells #[jg next,jg last,jg log,jg base] 3)) (.slice (some ⟨wA.heap.size,0,none⟩) [next,last,log,base].length 4) [next,last,log,base]:=by
  refine⟨_,_,rfl,by simp,by unfold maxLen;omega,(fun h=>by cases h),fun ad e=>?_⟩;cases e;refine⟨rfl,fun j u hu=>?_⟩;refine J8 hL rfl j (jg u) ?_;have:([next,last,log,base].map jg)[j]?=some (jg u):=by rw[ZN,hu];rfl
  exact this
 have z:=kA.tt kL;have HT:=jb (kL.same H id);clear H hL;generalize hwL:wA.alloc (.cells #[jg next,jg last,jg log,jg base] 3)=wL at kL B z HT;generalize hF:[next,last,log,base]=FOUR at B R G;have N:FOUR.length=4:=by rw[<-hF];rfl
 have C:=jb N;rw[N] at B;clear N hF;go_enter func166,ntmps166;go_wp2_with fail
 go_loopw [3,18] (fun b i wr=>∃(k:Nat) (p:Option Addr) (c:Nat),k<=4/\i = .int .i64 k/\b = .slice p (8*k) c /\
  wr.ownsRow wL.heap.size 5 1 (.slice p (8*k) c) (8*k) ((ke (FOUR.take k)).map j5)/\ja wL wr (fun _=>False))
  (fun _ i _=>4-(intOf i).toNat)
 case atStart=>exact⟨0,none,0,zG _,rfl,rfl,ZL _ _ _ _,ja.refl _ _⟩
 case round =>
  obtain⟨k,p,c,hk,rfl,rfl,d,y⟩:=hrel;rcases zV k 4 with v|ag
  ·have A:k<FOUR.length:=by rw[C.out];exact v
   have E:=B.same y;rw[<-C.out] at E;obtain⟨b,o,eb,e0⟩:=E.at A;cases eb;rw[xK] at e0;obtain⟨I,ac⟩:=G.out FOUR[k] (xV A);have ah:((FOUR[k]:Nat):Int)%18446744073709551616=(FOUR[k]:Nat):=by omega
   have l:=so A;have HS:=jb l;clear l;have n:(ke (FOUR.take k)).length=8*k:=by rw[gy];simp;omega
   generalize ke (FOUR.take k)=F at d HS n;have hm:8*k<1099511627776:=by omega
   have g:=d.lt
   go_wp2_with (go_at_call 107;refine(zm (.slice p (8*k) c) (8*k) F FOUR[k] 8 wL.heap.size wr n I (zJ _) hm y.size d).mono ?_;rintro e w' ⟨W,Y,rfl,f,s⟩)
   have e5:8*k+8=8*(k+1):=by omega
   rw[e5] at f s ⊢;rw[<-HS.out] at f;exact⟨⟨k+1,W,Y,by omega,by simp,rfl,f,y.trans s.keeps (fun i S e=>by have:=(g i e.symm).1;omega)⟩,by simp[intOf];omega⟩
  ·have ek:k=4:=by omega
   subst ek;rw[xF (by rw[C.out];exact zJ _)] at d;have M:=y.same HT.out id;have b4:=zA (o:=4) M;simp at b4;have bj:=jb M;clear M;have L:(ke FOUR).length=32:=by rw[gy,C.out]
   have g:=d.lt;have af:((runs.length:Nat):Int)%18446744073709551616=(runs.length:Nat):=by omega
   go_wp2_with fail;refine(zm (.slice p 32 c) 32 (ke FOUR) runs.length 2 wL.heap.size wr L (by omega) (by omega) (by omega) y.size d).mono ?_;rintro e w1 ⟨p1,c1,rfl,t,V⟩;have K1:ja wL w1 (fun _=>False):=y.trans V.keeps (fun i S e=>by have:=(g i e.symm).1;omega);have T:=K1.same HT.out id;have b4:=zA (o:=4) T;simp at b4;clear T g d af;have bi:=X.same (z.tt K1);simp only[Nat.reduceAdd] at t ⊢;have J:(ke FOUR++Rf.big runs.length 2).length=34:=by rw[zW,L,Rf.js]
   generalize ke FOUR++Rf.big runs.length 2=HEAD at t R J;have U:=jb J;clear L J;go_wp2_with fail
   go_loopw [3,36] (fun b i wr=>∃(k:Nat) (p:Option Addr) (c:Nat),k<=runs.length/\i = .int .i64 k/\b = .slice p (34+8*k) c /\
    wr.ownsRow wL.heap.size 5 1 (.slice p (34+8*k) c) (34+8*k) ((HEAD++ke (runs.take k)).map j5)/\ja wL wr (fun _=>False))
    (fun _ i _=>runs.length-(intOf i).toNat)
   case atStart=>exact⟨0,p1,c1,zG _,rfl,rfl,by simpa [ke] using t,K1⟩
   case round =>
    obtain⟨k,p,c,hk,rfl,rfl,d,q⟩:=hrel;rcases zV k runs.length with v|ag
    ·have ae:=X.same (z.tt q)
     obtain⟨b,o,rfl,e0⟩:=ae.at v;have I:=g5 runs[k] (xV v);have ac:=i5 runs[k] (xV v);have ah:((runs[k]:Nat):Int)%18446744073709551616=(runs[k]:Nat):=by omega
     have l:=so v;have HS:=jb l;clear l;have n:(HEAD++ke (runs.take k)).length=34+8*k:=by rw[zW,U.out,gy];simp;omega
     have ak:=jb n;clear n;have hm:34+8*k<1099511627776:=by omega
     have g:=d.lt
     go_wp2_with (go_at_call 107;refine(zm (.slice p (34+8*k) c) (34+8*k) (HEAD++ke (runs.take k)) runs[k] 8 wL.heap.size wr ak.out I (zJ _) hm q.size d).mono ?_;rintro e w' ⟨W,Y,rfl,f,s⟩)
     have e5:34+8*k+8=34+8*(k+1):=by omega
     rw[e5] at f s ⊢;rw[XL,<-HS.out] at f;have kk:=q.trans s.keeps (fun i S e=>by have:=(g i e.symm).1;omega);refine⟨?_,by simp[intOf];omega⟩
     first
      | exact⟨k+1,W,Y,by omega,by simp,rfl,f,kk⟩
      | ((repeat apply Exists.intro)
         refine⟨?_,rfl⟩
         exact⟨k+1,W,Y,by omega,by simp,rfl,f,kk⟩)
    ·have ek:k=runs.length:=by omega
     subst ek;rw[xR] at d;have n:(HEAD++ke runs).length=34+8*runs.length:=by rw[zW,U.out,gy]
     generalize HEAD++ke runs=ALL at d R n;rw[<-n] at d ⊢;have aj:ALL.length<1099511627776:=by omega
     have ai:Hid (BB.length=8+ALL.length):=by unfold Hid;rw[R.out];simp[Rf.frame,Rf.js];omega
     have g:=d.lt;clear n;go_wp2_with fail;refine(lf _ ALL wr (xr d) aj).mono ?_;rintro e w5 ⟨p5,c5,rfl,O,k5⟩;go_wp2;go_ret;rw[ai.out,R.out];exact⟨p5,c5,rfl,xd O (ZI z.size q.size),z.tt (q.trans k5 (fun _ _ h=>h))⟩
def jgb(E:Nat->Addr)(w:World)(r:Nat)(res:Option (Nat×List UInt8))(e:Ending)(w':World):Prop :=
 ja w w' (fun i=>i=r)/\((∃ x q,res=some (x,q)/\e = .returned (.tuple #[jg x,.nilIface])/\Rd w' r q)\/(∃ v,res=none/\e = .returned (.tuple #[jg 0,v])/\fw E w' v))
theorem rj{l:List UInt8}(S:Xg E B w)(q:B<=r)(k:Rd w r l) :
 Calls prog 241 #[.pointer (some ⟨r,0,none⟩)] w (jgb E w r (Rf.tm l)):=by
 have b:Rf.tm l=if 8<=l.length/\Rf.number (l.take 8)<=2000000000 then some (Rf.number (l.take 8),l.drop 8)else none:=rfl
 rcases zV l.length 8 with j|j
 ·rw[if_neg (by omega)] at b
  rw[b];clear b;go_enter func241,ntmps241;go_wp2_with fail;refine(Qq (n:=8) S k (by omega) (by omega)).mono ?_;rintro e o ⟨v,rfl,p,c,f⟩;obtain⟨t,a,rfl⟩:=p.shape;go_wp2;go_ret2;exact⟨Qi f,.inr ⟨_,rfl,rfl,.of p (by decide)⟩⟩
 ·rcases zV 2000000000 (Rf.number (l.take 8))with g|g
  ·rw[if_neg (by omega)] at b
   rw[b];clear b;have m:decide ((2000000000:Int)<((Rf.number (l.take 8):Nat):Int))=true:=by rw[decide_eq_true_iff];omega
   have d:(2000000000:Int)<((Rf.number (l.take 8):Nat):Int):=by omega
   clear g;go_enter func241,ntmps241;go_wp2_with fail;refine(yo (n:=8) k j (by omega)).mono ?_;rintro e o ⟨rfl,c,f⟩;generalize Rf.number (l.take 8)=N at m d ⊢;have s:=S.keep f (fun i e=>by rw[e];exact q);have x:=s.cell 4 (by decide);go_wp2_with fail
   go_region
   all_goals
    go_wp2;go_ret2;exact⟨f.draw,.inr ⟨_,rfl,rfl,.of (.base _ (by decide)) (by decide)⟩⟩
  ·rw[if_pos ⟨j,g⟩] at b
   rw[b];clear b;have m:decide ((2000000000:Int)<((Rf.number (l.take 8):Nat):Int))=false:=by rw[decide_eq_false_iff_not];omega
   have d:((Rf.number (l.take 8):Nat):Int)<=(2000000000:Int):=by omega
   clear g;go_enter func241,ntmps241;go_wp2_with fail;refine(yo (n:=8) k j (by omega)).mono ?_;rintro e o ⟨rfl,c,f⟩;generalize hN:Rf.number (l.take 8)=N at m d ⊢;have u:=jb hN;clear hN;go_wp2;go_ret2;exact⟨f,.inl ⟨_,_,rfl,by rw[u.out];simp,c⟩⟩
abbrev a8(xs:List Nat)(rv:Value):Array Value:=#[jg (xs.getD 0 0),jg (xs.getD 1 0),jg (xs.getD 2 0),jg (xs.getD 3 0),rv]
theorem Ny(v:Nat)(rv:Value)(h:xs.length=k)(d:k<4):(a8 xs rv).setIfInBounds k (jg v)=a8 (xs++[v]) rv:=by
 subst h
 match xs,d with
 | [],_=>simp[a8]
 | [a],_=>simp[a8]
 | [a,b],_=>simp[a8]
 | [a,b,c],_=>simp[a8]
theorem Rz(rv:Value)(b:k<4):∃ n,(a8 xs rv)[k]?=some (jg n):=by
 match k,b with
 | 0,_=>exact⟨_,rfl⟩
 | 1,_=>exact⟨_,rfl⟩
 | 2,_=>exact⟨_,rfl⟩
 | 3,_=>exact⟨_,rfl⟩
def oc(xs:List Nat):Option (List Nat×List UInt8)->Option (List Nat×List UInt8)
 | none=>none
 | some (ys,q)=>some (xs++ys,q)
theorem Gl{x:Nat}{b:List UInt8}(h:Rf.tm q=some (x,b)):oc xs (Rf.qy (n+1) q)=oc (xs++[x]) (Rf.qy n b):=by
 rw[Rf.qy,h];simp only
 cases Rf.qy n b with
 | none=>rfl
 | some x=>simp[oc]
theorem Gm(h:Rf.tm q=none):oc xs (Rf.qy (n+1) q)=none:=by
 rw[Rf.qy,h];rfl
theorem jdx{l:Nat}(h:w.heap[b]?=some (.cells #[jg n,jg l,jg g,jg s,.slice p k c] 117 (0,0))):(loadVar 117 ⟨b,0,none⟩).run prog w = .ok (.agg #[jg n,jg l,jg g,jg s,.slice p k c]) w:=by
 have m:=zA (o:=0) h;have j:=zA (o:=1) h;have i:=zA (o:=2) h;have f:=zA (o:=3) h;have d:=zA (o:=4) h;simp at m j i f d;go_simp
theorem rh{fn:Func}(h:fn.results=#[.cell t 117,.tmp u]){tmps:Array Value}{l:Nat}(f:tmps.getD t undef = .pointer (some ⟨b,0,none⟩))(j:w.heap[b]?=some (.cells #[jg n,jg l,jg g,jg s,.slice p k c] 117 (0,0))) :
 (results fn tmps).run prog w = .ok (.tuple #[.agg #[jg n,jg l,jg g,jg s,.slice p k c],tmps.getD u undef]) w:=by
 have i:=jdx j;have d:tmps[t]?.getD undef = .pointer (some ⟨b,0,none⟩):=by simpa using f
 simp[results,h,d,asAddr,i]
theorem Qe{l:Nat}(h:w.heap[b]?=some (.cells #[jg n,jg l,jg g,jg s,v] 117 (0,0))) :
 (w.cell? ⟨b,0,none⟩=some (jg n)/\w.cell? ⟨b,1,none⟩=some (jg l)/\w.cell? ⟨b,2,none⟩=some (jg g)/\w.cell? ⟨b,3,none⟩=some (jg s)/\w.cell? ⟨b,4,none⟩=some v)/\∀ o,w.frozen? ⟨b,o,none⟩=false:=by
 have j:=zA (o:=0) h;have i:=zA (o:=1) h;have f:=zA (o:=2) h;have d:=zA (o:=3) h;have c:=zA (o:=4) h;simp at j i f d c;exact⟨⟨j,i,f,d,c⟩,fun o=>zB h⟩
abbrev Ul(w:World)(b:Nat)(x0 x1 x2 x3 x4:Value):World:=((((w.setCell ⟨b,0,none⟩ x0).setCell ⟨b,1,none⟩ x1).setCell ⟨b,2,none⟩ x2).setCell ⟨b,3,none⟩ x3).setCell ⟨b,4,none⟩ x4
theorem ph{t:TypeId}(h:w.heap[b]?=some (.cells #[y0,y1,y2,y3,y4] t fz))(i g f d c:Value):(Ul w b i g f d c).heap[b]?=some (.cells #[i,g,f,d,c] t fz):=by
 have n:=jd (o:=0) h i;have m:=jd (o:=1) n g;have l:=jd (o:=2) m f;have k:=jd (o:=3) l d;have j:=jd (o:=4) k c;simpa using j
theorem cz(w:World)(b:Nat)(j g f d c:Value):ja w (Ul w b j g f d c) (fun i=>i=b) :=
 (((((ja.refl w (fun i=>i=b)).set (p:=⟨b,0,none⟩) rfl j).set (p:=⟨b,1,none⟩) rfl g).set (p:=⟨b,2,none⟩) rfl f).set (p:=⟨b,3,none⟩) rfl d).set (p:=⟨b,4,none⟩) rfl c
def Pe(E:Nat->Addr)(w:World)(T:Nat->Prop)(res:Option Rf.Man)(e:Ending)(w':World):Prop :=
 ja w w' T/\((∃ m p c,res=some m/\e = .returned (.tuple #[iu m (.slice p m.runs.length c),.nilIface])/\w'.ownsRow w.heap.size 3 1 (.slice p m.runs.length c) m.runs.length (m.runs.map jg)) \/
  (∃ v,res=none/\e = .returned (.tuple #[iu ⟨0,0,0,0,[]⟩ (.slice none 0 0),v])/\fw E w' v))
theorem Z0{m:World}{fn:Func}(h:fn.results=#[.cell t 117,.tmp u]){a:Act}(x:a.tmps.getD t undef = .pointer (some ⟨b,0,none⟩))(r:a.tmps.getD u undef=v)(z:a.defers=[]){d:Option Rf.Man}(j:d=none)(f:m.heap[b]?=some (.cells #[y0,y1,y2,y3,y4] 117 (0,0)))(D:w.heap.size<=b)(q:fw E m v)(y:ja w m T) :
 bodyPost prog fn (Pe E w T d) Exit.ret a (Ul m b (jg 0) (jg 0) (jg 0) (jg 0) (.slice none 0 0)):=by
 have A:=ph f (jg 0) (jg 0) (jg 0) (jg 0) (.slice none 0 0);refine bodyPost_ret (rh (n:=0) (l:=0) (g:=0) (s:=0) (p:=none) (k:=0) (c:=0) h x A) z ?_;rw[r];obtain⟨k,C,B⟩:=q;refine⟨y.trans (cz _ _ _ _ _ _ _) (fun i hi e=>by have o:i=b:=e;omega),.inr ⟨v,j,rfl,⟨k,C,B.keep (cz _ _ _ _ _ _ _) (fun i c' hi e=>?_)⟩⟩⟩;have o:i=b:=hi;subst o;rw[f] at e;cases e
structure ve(w wr:World)(xs:List Nat)(rv:Value):Prop where
 rb:wr.heap[w.heap.size]?=some (.cells #[jg 0,jg 0,jg 0,jg 0,.slice none 0 0] 117 (0,0))
 mb:wr.heap[w.heap.size+1]?=some (.cells (a8 xs rv) 117 (0,0))
 pb:wr.heap[w.heap.size+1+1]?=some (.cells #[.pointer (some ⟨w.heap.size+1,0,none⟩),.pointer (some ⟨w.heap.size+1,1,none⟩),.pointer (some ⟨w.heap.size+1,2,none⟩),.pointer (some ⟨w.heap.size+1,3,none⟩)] 313 (0,0))
theorem ve.keep(h:ve w wr xs rv)(b:ja wr w' T)(c:∀ i,w.heap.size<=i->i<=w.heap.size+1+1->¬T i):ve w w' xs rv :=
 ⟨b.same h.rb (c _ (by omega) (by omega)),b.same h.mb (c _ (by omega) (by omega)),b.same h.pb (c _ (by omega) (by omega))⟩
theorem ve.ptr(h:ve w wr xs rv)(b:k<4):wr.cell? ⟨w.heap.size+1+1,k,none⟩=some (.pointer (some ⟨w.heap.size+1,k,none⟩)):=by
 rw[zA h.pb]
 match k,b with
 | 0,_=>rfl
 | 1,_=>rfl
 | 2,_=>rfl
 | 3,_=>rfl
theorem ve.set(h:ve w wr xs rv)(b:xs.length=k)(c:k<4)(v:Nat):ve w (wr.setCell ⟨w.heap.size+1,k,none⟩ (jg v)) (xs++[v]) rv:=by
 have ks:=ja.setCell wr ⟨w.heap.size+1,k,none⟩ (jg v);refine⟨ks.same h.rb (show ¬w.heap.size=w.heap.size+1 by omega),?_,ks.same h.pb (show ¬w.heap.size+1+1=w.heap.size+1 by omega)⟩;rw[jd h.mb,Ny v rv b c]
theorem jg1{g f d c:Nat}{t:TypeId}(i:∀ x,rv≠j5 x)(h:w.heap[b]?=some (.cells #[jg g,jg f,jg d,jg c,rv] t fz)):∀ j x,w.cell? ⟨b,j,none⟩≠some (j5 x):=by
 intro j x;rw[zA h]
 match j with
 | 0=>simp
 | 1=>simp
 | 2=>simp
 | 3=>simp
 | 4=>simpa using i x
 | j+5=>rw[zI (by simp)];simp
theorem Rd.jhx(h:Rd w r q)(b:ja w w' T)(d:∀ i,T i->r<i):Rd w' r q:=by
 obtain⟨u,l,g,f⟩:=h;refine⟨u,b.same l (fun e=>by have:=d _ e;omega),?_,f⟩;rcases Classical.em (q=[])with rfl|k
 ·obtain⟨p,c,rfl,t,s,o,m⟩:=g
  exact⟨p,c,rfl,t,s,o,fun ad e=>⟨(m ad e).1,fun j u hu=>by cases hu⟩⟩
 ·exact g.keep b (fun p n c e ht=>by have x:=(f k p n c e).1;have v:=d _ ht;omega)
theorem Gq{l:List UInt8}(S:Xg E B w)(hB:B<=r)(hr:Rd w r l) :
 Calls prog 216 #[.pointer (some ⟨r,0,none⟩)] w (Pe E w (fun i=>i=r) (Rf.Qz l)):=by
 have da:r<w.heap.size:=by obtain⟨v,h1,_⟩:=hr;exact zC h1
 obtain⟨j0,hj,c6,c5,c4⟩:=info_parts Tryz.Fg
 have hR:Rf.Qz l=match Rf.qy 4 l with
  | some ([a,b,c,d],q) =>
   if 2<=q.length then
    match Rf.qy (Rf.number (q.take 2)) (q.drop 2)with
    | some (rs,[])=>some ⟨a,b,c,d,rs⟩
    | _=>none
   else none
  | _=>none:=rfl
 have HR:=jb hR;clear hR;generalize Rf.Qz l=RES at HR ⊢
 have bg:ve w (((w.alloc (.cells #[jg 0,jg 0,jg 0,jg 0,.slice none 0 0] 117)).alloc (.cells #[jg 0,jg 0,jg 0,jg 0,.slice none 0 0] 117)).alloc (.cells #[.pointer (some ⟨w.heap.size+1,0,none⟩),.pointer (some ⟨w.heap.size+1,1,none⟩),.pointer (some ⟨w.heap.size+1,2,none⟩),.pointer (some ⟨w.heap.size+1,3,none⟩)] 313)) [] (.slice none 0 0):=by
  have t1:=je w (.cells #[jg 0,jg 0,jg 0,jg 0,.slice none 0 0] 117);have t2:=je (w.alloc (.cells #[jg 0,jg 0,jg 0,jg 0,.slice none 0 0] 117)) (.cells #[jg 0,jg 0,jg 0,jg 0,.slice none 0 0] 117);have t3:=je ((w.alloc (.cells #[jg 0,jg 0,jg 0,jg 0,.slice none 0 0] 117)).alloc (.cells #[jg 0,jg 0,jg 0,jg 0,.slice none 0 0] 117)) (.cells #[.pointer (some ⟨w.heap.size+1,0,none⟩),.pointer (some ⟨w.heap.size+1,1,none⟩),.pointer (some ⟨w.heap.size+1,2,none⟩),.pointer (some ⟨w.heap.size+1,3,none⟩)] 313);have e1:(w.alloc (.cells #[jg 0,jg 0,jg 0,jg 0,.slice none 0 0] 117)).heap.size=w.heap.size+1:=by simp
  have e2:((w.alloc (.cells #[jg 0,jg 0,jg 0,jg 0,.slice none 0 0] 117)).alloc (.cells #[jg 0,jg 0,jg 0,jg 0,.slice none 0 0] 117)).heap.size=w.heap.size+1+1:=by simp
  rw[e1] at t2;rw[e2] at t3;exact⟨(ja.alloc _ _ (fun _=>False)).same ((ja.alloc _ _ (fun _=>False)).same t1 id) id,(ja.alloc _ _ (fun _=>False)).same t2 id,t3⟩
 have k0:ja w (((w.alloc (.cells #[jg 0,jg 0,jg 0,jg 0,.slice none 0 0] 117)).alloc (.cells #[jg 0,jg 0,jg 0,jg 0,.slice none 0 0] 117)).alloc (.cells #[.pointer (some ⟨w.heap.size+1,0,none⟩),.pointer (some ⟨w.heap.size+1,1,none⟩),.pointer (some ⟨w.heap.size+1,2,none⟩),.pointer (some ⟨w.heap.size+1,3,none⟩)] 313)) (fun _=>False):=(((ja.refl w _).more _).more _).more _;go_enter func216,ntmps216;go_wp2_with fail
 go_loopw [20] (fun i wr=>∃(k:Nat) (xs:List Nat) (q:List UInt8),k<=4/\xs.length=k/\i = .int .i64 k/\ve w wr xs (.slice none 0 0)/\Rd wr r q/\ja w wr (fun i=>i=r)/\Rf.qy 4 l=oc xs (Rf.qy (4-k) q))
  (fun i _=>4-(intOf i).toNat)
 case atStart=>exact⟨0,[],l,zG _,rfl,rfl,bg,hr.same k0,Qi k0,by cases Rf.qy 4 l<;>simp[oc]⟩
 case round =>
  obtain⟨k,xs,q,hk,z,rfl,R,L,A,F⟩:=hrel;have f:=jb F;clear F;have Sr:=S.keep A (fun i e=>by rw[e];exact hB);rcases zV k 4 with ah|c7
  ·have hp:=R.ptr ah
   go_wp2_with fail;refine(rj Sr hB L).mono ?_;rintro e w2 ⟨O,⟨x,q',D,rfl,ar⟩|⟨v,D,rfl,Y⟩⟩
   ·have T:=R.keep O (fun i h1 h2 e=>by omega)
    obtain⟨n0,bd⟩:=Rz (xs:=xs) (.slice none 0 0) ah;have c0:=(zA (o:=k) T.mb).trans bd;have f0:=zB (o:=k) T.mb;have av:=T.set z ah x;have ks:=ja.setCell w2 ⟨w.heap.size+1,k,none⟩ (jg x);have bc:∀ j y,w2.cell? ⟨w.heap.size+1,j,none⟩≠some (j5 y):=jg1 (fun y=>by simp) T.mb;have bk:=ar.other ks (show r≠w.heap.size+1 by omega) bc;have kk:ja w (w2.setCell ⟨w.heap.size+1,k,none⟩ (jg x)) (fun i=>i=r):=(Xx A O).trans ks (fun i hi e=>by have e':i=w.heap.size+1:=e;omega)
    have Z:Rf.qy 4 l=oc (xs++[x]) (Rf.qy (4-(k+1)) q'):=by
     rw[f.out,show 4-k=(4-(k+1))+1 by omega];exact Gl D
    have HS:=jb Z;clear Z f bc bd;go_wp2;exact⟨⟨k+1,xs++[x],q',by omega,by simp[z],by simp,av,bk,kk,HS.out⟩,by simp[intOf];omega⟩
   ·have G:Rf.qy 4 l=none:=by
     rw[f.out,show 4-k=(4-k-1)+1 by omega];exact Gm D
    have HN:Hid (RES=none):=by unfold Hid;rw[HR.out,G]
    clear HR f G
    have T:=R.keep O (fun i h1 h2 e=>by omega)
    obtain⟨⟨q0,q1,q2,q3,q4⟩,u⟩:=Qe T.rb
    have f0:=u 0
    have f1:=u 1
    have f2:=u 2
    have f3:=u 3
    have f4:=u 4
    obtain⟨t,a,rfl⟩:=Y.shape
    go_wp2
    exact Z0 (v:= .iface t (.pointer (some a))) rfl rfl rfl rfl HN.out T.rb (zJ _) Y (Xx A O)
  ·have ek:k=4:=by omega
   subst ek
   have h4:Rf.qy 4 l=some (xs,q):=by
    rw[f.out,Nat.sub_self,Rf.qy];simp[oc]
   clear f
   match xs,z with
   | [a,b,c,d],_ =>
    have ai:Hid (RES=if 2<=q.length then(match Rf.qy (Rf.number (q.take 2)) (q.drop 2)with|some (rs,[])=>some ⟨a,b,c,d,rs⟩|_=>none)else none):=by
     unfold Hid;rw[HR.out,h4]
    clear HR h4;have a5:=R.rb;have a6:wr.heap[w.heap.size+1]?=some (.cells #[jg a,jg b,jg c,jg d,.slice none 0 0] 117 (0,0)):=R.mb;have bi:w.heap.size+1+1<wr.heap.size:=zC R.pb;clear R bg k0;have C:=jb a5;have U:=jb a6;clear a5 a6;rcases zV q.length 2 with ag|ag
    ·have HN:Hid (RES=none):=by unfold Hid;rw[ai.out,if_neg (by omega)]
     clear ai;go_wp2_with fail;refine(Qq (n:=2) Sr L ag (by omega)).mono ?_;rintro e w1 ⟨v,rfl,Y,au,k1⟩;obtain⟨t,ad,rfl⟩:=Y.shape;go_wp2_with fail;refine(zw _ Y).mono ?_;rintro e w2 ⟨v2,rfl,ca,O⟩;have J:=O.same (k1.same C.out id) id;obtain⟨⟨q0,q1,aq,q3,q4⟩,u⟩:=Qe J;have f0:=u 0;have f1:=u 1;have f2:=u 2;have f3:=u 3;have f4:=u 4;have H2:=jb J;clear J;go_wp2;exact Z0 (v:=v2) rfl rfl rfl rfl HN.out H2.out (zJ _) (.of ca (by decide)) (A.trans (k1.tt O) (fun _ _ h=>h.elim))
    ·have M:Hid (RES=(match Rf.qy (Rf.number (q.take 2)) (q.drop 2)with|some (rs,[])=>some ⟨a,b,c,d,rs⟩|_=>none)):=by unfold Hid;rw[ai.out,if_pos ag]
     clear ai;have bh:=Rf.Zz (q.take 2);rw[show(q.take 2).length=2 by simp;omega] at bh;go_wp2_with fail;refine(yo (n:=2) L ag (by omega)).mono ?_;rintro e w1 ⟨rfl,au,k1⟩;have an:=k1.same C.out (show ¬w.heap.size=r by omega);have ao:=k1.same U.out (show ¬w.heap.size+1=r by omega);have K1:=Xx A k1;have bj:w.heap.size+1+1<w1.heap.size:=ZH bi k1.size;generalize Rf.number (q.take 2)=N at M bh ⊢;generalize q.drop 2=m at M au;clear C U L A Sr;have C:=jb an;have U:=jb ao;clear an ao;go_wp2_with fail
     go_loopw [48] (fun i wr=>∃(k:Nat) (rs:List Nat) (q:List UInt8) (p:Option Addr) (cp:Nat),k<=N/\rs.length=k/\i = .int .u64 k /\
      wr.heap[w.heap.size]?=some (.cells #[jg 0,jg 0,jg 0,jg 0,.slice none 0 0] 117 (0,0)) /\
      wr.heap[w.heap.size+1]?=some (.cells #[jg a,jg b,jg c,jg d,.slice p k cp] 117 (0,0)) /\
      wr.ownsRow (w.heap.size+1+1+1) 3 1 (.slice p k cp) k (rs.map jg)/\Rd wr r q/\ja w wr (fun i=>i=r)/\w.heap.size+1+1<wr.heap.size/\Rf.qy N m=oc rs (Rf.qy (N-k) q))
      (fun i _=>N-(intOf i).toNat)
     case atStart=>exact⟨0,[],m,none,0,zG _,rfl,rfl,C.out,U.out,ZL _ _ _ _,au,K1,bj,by cases Rf.qy N m<;>simp[oc]⟩
     case round =>
      obtain⟨k,rs,q,p,cp,hk,z,rfl,a5,a6,V,L,A,d9,F⟩:=hrel;have f:=jb F;have C:=jb a5;have U:=jb a6;clear F a5 a6;have Sr:=S.keep A (fun i e=>by rw[e];exact hB);rcases zV k N with ah|c7
      ·go_wp2_with fail
       refine(rj Sr hB L).mono ?_;rintro e w2 ⟨O,⟨x,q',D,rfl,ar⟩|⟨v,D,rfl,Y⟩⟩
       ·have J:=O.same C.out (show ¬w.heap.size=r by omega)
        have a8:=O.same U.out (show ¬w.heap.size+1=r by omega);have aa:=O.row V (fun g hg e=>by have:=(V.lt g hg).1;omega);obtain⟨⟨a0,a1,a2,a3,a4⟩,af⟩:=Qe a8;have f4:=af 4
        have Z:Rf.qy N m=oc (rs++[x]) (Rf.qy (N-(k+1)) q'):=by
         rw[f.out,show N-k=(N-(k+1))+1 by omega];exact Gl D
        have HS:=jb Z;clear Z f;have ax:=aa.alloc (.cells #[jg x] 3);have cc:Hid (k+1<=maxLen):=by unfold Hid maxLen;omega
        have av:Hid ((k+1)*8<=140737488355328):=by unfold Hid;omega
        have cb:w.heap.size+1+1+1<=(w2.alloc (.cells #[jg x] 3)).heap.size:=by have:=O.size;simp;omega
        have W:=aa.lt;have bm:=jb J;have bo:=jb a8;clear J a8
        go_wp2_with (first
         | (at_builtin;go_must (refine jy _ rfl (.tmp 61) (.tmp 63) 39 rfl (w.heap.size+1+1+1) 3 j0 (.int .i64 0) 1 8 underlying39 hj c6 c5 c4 rfl ZJ _ _ _ rfl ax ⟨w2.heap.size,0,none⟩ 1 1 [jg x] rfl rfl (cell_one_new _ _ _) (Ns x) cc.out av.out cb ?_)
            intro p3 H w3 a9 c8 cd
            have kg:ja w2 w3 (fun i=>some i=(Value.slice p k cp).ownBlock):=((ja.refl w2 _).more _).grow c8 (fun j e _=>e.symm)
            have a7:=kg.same bo.out (fun e=>by have:=(W _ e.symm).1;omega)
            have I:=kg.same bm.out (fun e=>by have:=(W _ e.symm).1;omega)
            obtain⟨⟨b0,b1,b2,b3,b4⟩,bf⟩:=Qe a7
            have g4:=bf 4
            have bn:=jb a7
            have bl:=jb I
            clear a7 I)
         | go_in)
        have ks:=ja.setCell w3 ⟨w.heap.size+1,4,none⟩ (.slice p3 (k+1) H);have KT:ja w2 (w3.setCell ⟨w.heap.size+1,4,none⟩ (.slice p3 (k+1) H)) (fun i=>r<i):=(kg.mono (fun i _ e=>by have:=(W i e.symm).1;omega)).trans ks (fun i _ e=>by have e':i=w.heap.size+1:=e;omega);have bb:=ar.jhx KT (fun _ h=>h)
        have be:(w3.setCell ⟨w.heap.size+1,4,none⟩ (.slice p3 (k+1) H)).heap[w.heap.size+1]?=some (.cells #[jg a,jg b,jg c,jg d,.slice p3 (k+1) H] 117 (0,0)):=by
         rw[jd bn.out];simp
        have am:=ks.same bl.out (show ¬w.heap.size=w.heap.size+1 by omega);have aw:=ks.row a9 (fun g hg e=>by have h1:=(a9.lt g hg).1;have e':g=w.heap.size+1:=e;omega);have ba:ja w (w3.setCell ⟨w.heap.size+1,4,none⟩ (.slice p3 (k+1) H)) (fun i=>i=r):=((Xx A O).trans kg (fun i hi e=>by have:=(W i e.symm).1;omega)).trans ks (fun i hi e=>by have e':i=w.heap.size+1:=e;omega);have al:w.heap.size+1+1<(w3.setCell ⟨w.heap.size+1,4,none⟩ (.slice p3 (k+1) H)).heap.size:=by have h1:=O.size;have h2:=KT.size;omega
        have X:(w3.setCell ⟨w.heap.size+1,4,none⟩ (.slice p3 (k+1) H)).ownsRow (w.heap.size+1+1+1) 3 1 (.slice p3 (k+1) H) (k+1) ((rs++[x]).map jg):=by simpa using aw
        refine⟨?_,by simp[intOf];omega⟩
        first
         | exact⟨k+1,rs++[x],q',p3,H,by omega,by simp[z],by simp,am,be,X,bb,ba,al,HS.out⟩
         | ((repeat apply Exists.intro)
            refine⟨?_,rfl⟩
            exact⟨k+1,rs++[x],q',p3,H,by omega,by simp[z],by simp,am,be,X,bb,ba,al,HS.out⟩)
       ·have G:Rf.qy N m=none:=by
         rw[f.out,show N-k=(N-k-1)+1 by omega];exact Gm D
        have HN:Hid (RES=none):=by unfold Hid;rw[M.out,G]
        clear M f G
        obtain⟨t,ad,rfl⟩:=Y.shape
        go_wp2_with fail
        refine(nh _ Y).mono ?_
        rintro e w3 ⟨v3,rfl,c9,k3⟩
        have I:=k3.same (O.same C.out (show ¬w.heap.size=r by omega)) id
        obtain⟨⟨q0,q1,aq,q3,q4⟩,u⟩:=Qe I
        have f0:=u 0
        have f1:=u 1
        have f2:=u 2
        have f3:=u 3
        have f4:=u 4
        have H3:=jb I
        clear I
        go_wp2
        exact Z0 (v:=v3) rfl rfl rfl rfl HN.out H3.out (zJ _) c9 ((Xx A O).trans k3 (fun _ _ h=>h.elim))
      ·have ek:k=N:=by omega
       subst ek
       have hz:Rf.qy k m=some (rs,q):=by
        rw[f.out,Nat.sub_self,Rf.qy];simp[oc]
       clear f
       cases q with
       | nil =>
        have HN:Hid (RES=some ⟨a,b,c,d,rs⟩):=by unfold Hid;rw[M.out,hz]
        clear M hz;obtain⟨⟨a0,a1,a2,a3,a4⟩,_⟩:=Qe U.out;obtain⟨⟨q0,q1,aq,q3,q4⟩,u⟩:=Qe C.out;have f0:=u 0;have f1:=u 1;have f2:=u 2;have f3:=u 3;have f4:=u 4;go_wp2_with fail;refine(Vw L).mono ?_;rintro e w' ⟨rfl,rfl⟩;go_wp2;have hb:=ph C.out (jg a) (jg b) (jg c) (jg d) (.slice p k cp);refine bodyPost_ret (rh (n:=a) (l:=b) (g:=c) (s:=d) (p:=p) (k:=k) (c:=cp) rfl rfl hb) rfl ?_;have ks:=cz w' w.heap.size (jg a) (jg b) (jg c) (jg d) (.slice p k cp);refine⟨A.trans ks (fun i hi e=>by have e':i=w.heap.size:=e;omega),.inl ⟨⟨a,b,c,d,rs⟩,p,cp,HN.out,by simp only[z];rfl,?_⟩⟩;simp only[z];exact xd (ks.row V (fun g hg e=>by have h1:=(V.lt g hg).1;have e':g=w.heap.size:=e;omega)) (by omega)
       | cons y q =>
        have HN:Hid (RES=none):=by unfold Hid;rw[M.out,hz]
        clear M hz;go_wp2_with fail;refine(Tg Sr L (by simp)).mono ?_;rintro e w' ⟨v,rfl,Y,rfl⟩;obtain⟨t,ad,rfl⟩:=Y.shape;obtain⟨⟨q0,q1,aq,q3,q4⟩,u⟩:=Qe C.out;have f0:=u 0;have f1:=u 1;have f2:=u 2;have f3:=u 3;have f4:=u 4;go_wp2;exact Z0 (v:= .iface t (.pointer (some ad))) rfl rfl rfl rfl HN.out C.out (zJ _) (.of Y (by decide)) A
end Go.Proofs.YtnipbplghijdmaaGreatDoor
