/-
-/
import Derived.Sort.KeysCollected
import Derived.Test.YtdaocdiabffpkaaGreatDoorR05
set_option maxRecDepth 100000
set_option maxHeartbeats 8000000
set_option linter.all false
namespace Go.Proofs.YtdaocdiabffpkaaGreatDoor
open RowKit Maps WideShapes Go.Proofs.Tryz
variable {D:DataW Nat} {B d f k:Nat} {w w':World} {v:Value} {T:Nat->Prop} {E:Nat->Addr}
theorem Yg(w:World){g:Array Oper}{rest:List Oper}{o:Oper}{a:Act}{Q:Exit->Act->World->Prop}(N:o.guard=none)(G:Operand)(m:o.op=Op.next G false)(b r n:Nat)(D:DataW Nat)(left:Lit->Bool)(j:Nat)(p:a.eval G = P1 r)(h:w.ranges prog 9 qy b r n D left j){fs:Nat->Option j2}(O:bu D fs)(l:j=0->(∀ kl,left kl=false)->wpList prog g Q rest (a.put o.dst (.tuple #[.bool false])) w)(k:∀(x:Str) (f:Nat) (w':World) (c:Nat),x.length<=maxLen->left (.string x)=true->(∃ fa,fs f=some fa)->(∀ zd,D.atKey (.string x) zd=.held f)->w'.ranges prog 9 qy b r n D (λz=>left z&&!z.sameKey (.string x)) c->c<j->w.grownBy w' (some r)->w'.heap.size=w.heap.size->(Instr.entry (P1 r)).run prog w'=.ok (.tuple #[je x,P1 f]) w'->wpList prog g Q rest (a.put o.dst (.tuple #[.bool true,je x,P1 f])) w'):wpList prog g Q (o::rest) a w:=by
 refine wpList_plain N λi V=>?_
 unfold Oper.wp;obtain⟨R,M,d⟩|⟨key,v,kl,y,w',c,q,C,L,i,d,A,B,E,u,F⟩:=h.next law o.type;simp[execOp,m,p,d,Result.andThen];exact V _ _<|l R M;obtain⟨x,J,rfl,s⟩:=Maps.keyOf_str underlying9 q;obtain⟨f,fa,U,T⟩:=O (.string x)<|has_true_of_atKey i;obtain⟨I,_⟩:=Eg L;have H:=(i .nil).symm.trans U;rw[H] at I;have S:v = P1 f:=I;have t:key=je x:=J;subst S t;simp[execOp,m,p,d,Result.andThen];exact V _ _<|k x f w' c s C ⟨fa,T⟩ (λzd=>(i zd).trans H) A B E u F
def entriesOf:DataW Nat->List (Lit×DataW Nat)
 | .map es=>es
 | _=>[]
def jar(fs:Nat->Option j2)(y:DataW Nat):Nat:=((fileOf y).bind fs).elim 0 (λa=>a.bytes.length)
def ia(fs:Nat->Option j2)(D:DataW Nat)(left:Lit->Bool):Nat:=((entriesOf D).map λp=>if left p.1 then 0 else jar fs p.2).sum
def total(fs:Nat->Option j2)(D:DataW Nat):Nat:=((entriesOf D).map λp=>jar fs p.2).sum
theorem jcc(g:Lit×DataW Nat->Nat)(left:Lit->Bool)(b:Lit)(f:WideAt.IsKeyLit b)(d:left b=true):∀ es:List (Lit×DataW Nat),es.Pairwise (λp q=>p.1≠q.1)->∀ p∈es,p.1=b->(es.map λq=>if (left q.1&&!q.1.sameKey b)then 0 else g q).sum=(es.map λq=>if left q.1 then 0 else g q).sum+g p:=by
 have other:∀ es:List (Lit×DataW Nat),(∀ q∈es,q.1≠b)->(es.map λq=>if (left q.1&&!q.1.sameKey b)then 0 else g q)=es.map λq=>if left q.1 then 0 else g q:=by grind [XE,sameKey_ne]
 intro es;induction es with|nil=>intro _ p c;cases c|cons y r ih=>grind [XC,WideAt.sameKey_self,sameKey_ne]
theorem jcd{fs:Nat->Option j2}{left:Lit->Bool}{x:Str}{a:j2}(l:Tidy D)(j:left (.string x)=true)(c:∀ zd,D.atKey (.string x) zd=.held f)(m:fs f=some a):ia fs D (λz=>left z&&!z.sameKey (.string x))=ia fs D left+a.bytes.length:=by
 obtain⟨es,rfl,g⟩:=l;have k:=has_true_of_atKey c;obtain⟨p,b,i⟩:=List.any_eq_true.1 k;have d:=WideAt.sameKey_eq i;have n:p.2=.held f:=by rw[<-c .nil,<-d];exact(WideAt.atKey_mem .nil (by rw[d];trivial) g b).symm
 have:=jcc (λq=>jar fs q.2) left (.string x) (by trivial) j es g p b d;grind [ia,entriesOf,jar,fileOf]
theorem Vq{fs:Nat->Option j2}(b:Canon D):ia fs D (Maps.has D)=0:=by
 obtain⟨es,rfl,_,c⟩:=b;simp only[ia,entriesOf];have h:(es.map λp=>if Maps.has (.map es) p.1=true then 0 else jar fs p.2)=es.map λ_=>0:=by grind [XE,Maps.has,WideAt.sameKey_self]
 rw[h];generalize es=l;induction l with|nil=>rfl|cons y r ih=>simpa using ih
theorem jf3{fs:Nat->Option j2}{left:Lit->Bool}(h:∀ k,left k=false):ia fs D left=total fs D:=by simp[ia,total,h]
theorem Vr{fs:Nat->Option j2}(left:Lit->Bool):ia fs D left<=total fs D:=by unfold ia total;generalize entriesOf D=l;induction l with|nil=>simp|cons y r ih=>grind
theorem jbw{ρ:Nat->j4}{d:Addr}{c:Nat}{src:By}(f:ρ d.block=.none)(l:src.length<=c)(b:∀ j u,(src.map qd)[j]?=some u->w.cell? (d.add j)=some u)(k:Nat)(i:k<=src.length):Arg w ρ (.slice (some d) k c) (src.take k):=by
 have g:(src.take k).length=k:=by simp;omega
 refine .inr ⟨d,c,by rw[g],zC,f,λj u g=>b j u ?_⟩;grind
theorem Arg.keep{ρ g:Nat->j4}{l:By}(h:Arg w ρ v l)(o:ja w w' T)(q:∀ i,i<w.heap.size->ρ i=.none->¬T i)(m:∀ i,ρ i=.none->i<w.heap.size->g i=.none)(d:0<l.length):Arg w' g v l:=by
 obtain⟨_,rfl⟩|⟨k,c,e,p,n,b⟩:=h;simp at d
 ·(have f:k.block<w.heap.size:=by have r:=b 0 (qd l[0]) zG;grind [XJ,Js]);refine .inr ⟨k,c,e,p,m _ n f,λj u c=>o.cell (b j u c) (by grind [Js])⟩
theorem Hn{ρ:Nat->j4}{S:jd}(nm:Str)(src:By)(A:Addr)(c:Nat)(R:Rep w ρ d S)(Z:Small S)(hn:nm.length<1099511627776){a:j2}(hA:S.at nm=some f)(ha:S.files f=some a)(n:0<src.length)(a2:src.length<1099511627776)(hv:Arg w ρ (.slice (some A) src.length c) src)(hc:src.length<=c)(a9:c<=maxLen)(ao:total S.files S.names<1099511627776):Calls prog 29 #[P1 d,je nm,.slice (some A) src.length c] w λe w'=>∃ ρ',yc w ρ w' ρ'/\(((S.bad=true\/20000<src.length+total S.files S.names)/\e=.returned (aA 1)/\Rep w' ρ' d ((S.called true).withFile f (a.put (src.take (src.length/2)))))\/(S.bad=false/\src.length+total S.files S.names<=20000/\e=.returned (aA 0)/\Rep w' ρ' d ((S.called true).withFile f (a.put src)))):=by
 have T:=ar hn;change Hid _ at hA ha;have E:S.bad=true\/S.bad=false:=by cases S.bad<;>simp
 have W:20000<src.length+total S.files S.names\/¬20000<src.length+total S.files S.names:=zC;unfold maxLen at a9;go_enter func29,ntmps29;go_wp2_with fail;refine(Ja true R).mono ?_;rintro e y ⟨rfl,X,b⟩;obtain⟨C,g,lv,g,rn,rs,V,_⟩:=X.mem;have i:=zK 0 g;simp at i;change Hid _ at g;have r:Arg y ρ (.slice (some A) src.length c) src:=hv.keep b.keeps (λi _ j g=>g j) (λ_ h _=>h) n;have j:=X.l8;have q:=V.canon law;have g:=V.tidy law;have p:=(Z.called true).files;clear hv;go_wp2_with (first|(at_lookup;refine xr _ rfl _ _ rfl C _ _ rfl V _ _ rfl T (.pointer<|some (A2 f)) (congrArg ku hA) ?_)|(at_range;refine wpList_range_own _ rfl _ 64 rfl 9 84 law underlying64 _ C _ _ rfl V ?_;intro l m L a4)|go_in);go_frame;go_loopw [9] (λv wr=>∃(left:Lit->Bool) (O:Nat),wr.ranges prog 9 qy C y.heap.size (Maps.size (S.called true).names) (S.called true).names left O/\v = aA ((src.length:Int)+(ia S.files S.names left:Int))/\ja y wr N_) (λ_ wr=>wr.rangeLeft C y.heap.size);case atStart=>exact⟨_,_,m,by rw[show ia S.files S.names (Maps.has (S.called true).names)=0 from Vq q];simp,ja.grown L |>.mono (λ_ _ h=>by simp at h)⟩
 case round=>obtain⟨left,O,s,rfl,k⟩:=hrel;have o:=Vr (fs:=S.files) (D:=S.names) left;go_wp2_with (first|(at_next;refine Yg _ rfl _ rfl C y.heap.size _ _ _ _ rfl s j ?_ ?_)|go_in);(· intro ab I;have l:ia S.files S.names left=total S.files S.names:=jf3 I;(have l:Rep wr ρ d (S.called true):=X.keep k λ_ h=>h.elim);(have Gr:yc w ρ wr ρ:=b.trans<|yc.of k λ_ _ h=>h.elim);have H:Arg wr ρ (.slice (some A) src.length c) src:=r.keep k (λ_ _ _ h=>h) (λ_ h _=>h) n;have t:(S.called true).files f=some a:=ha.out;clear s j q g p m L a4 o ab I;(have b:Hid (ρ A.block=.none/\∀ j u,(src.map qd)[j]?=some u->wr.cell? (A.add j)=some u):=by obtain⟨e,_⟩|⟨j,j,e,_,j,aa⟩:=H;cases e;cases e;exact⟨j,aa⟩);obtain E|E:=E;(· go_wp2_with (go_at_call 65;refine(Tz l (Z.called true) t (src.take (src.length/2)) (by simp;omega) _<|jbw b.out.1 hc b.out.2 _ zC).mono ?_;rintro e j ⟨rfl,B,F,G⟩);go_ret;exact⟨B,Gr.trans G,.inl ⟨.inl E,rfl,F⟩⟩);· obtain W|W:=W;(· (have m:(20000:Int)<(src.length:Int)+(total S.files S.names:Int):=zC);go_wp2_with (go_at_call 65;refine(Tz l (Z.called true) t (src.take (src.length/2)) (by simp;omega) _<|jbw b.out.1 hc b.out.2 _ zC).mono ?_;rintro e j ⟨rfl,B,F,G⟩);go_ret;exact⟨B,Gr.trans G,.inl ⟨.inr W,rfl,F⟩⟩);· (have m:¬(20000:Int)<(src.length:Int)+(total S.files S.names:Int):=zC);go_wp2_with (go_at_call 65;refine(Tz l (Z.called true) t src a2 _ H).mono ?_;rintro e j ⟨rfl,B,F,G⟩);go_ret;exact⟨B,Gr.trans G,.inr ⟨E,zC,rfl,F⟩⟩);· intro x j o U b m Y M b l a5 a8 a3 p;have r:ia S.files S.names (λz=>left z&&!z.sameKey (.string x))=ia S.files S.names left+Y.bytes.length:=jcd g m b M;(have p:=Vr (fs:=S.files) (D:=S.names) λz=>left z&&!z.sameKey (.string x));(have b8:ia S.files S.names left+Y.bytes.length<=total S.files S.names:=by rw[<-r];exact p);change Hid _ at r;clear p;(have J:ja y o N_:=k.trans (ja.grown a8) λi hi e=>zG);obtain⟨b,b,b,N,b,g,g,g⟩:=X.files j Y M;obtain⟨g,b9,rfl⟩:=jl b;have b:=zM (o:=0)<|J.same N id;simp at b;clear a3 N;go_wp2;go_roundw;(case rel=>exact⟨_,U,l,by rw[r.out];push_cast;go_num,J⟩);case measure=>rw[l.left_eq,s.left_eq];exact a5
def J0(D:DataW Nat)(l:List zh)(k:Nat):DataW Nat:=(l.take k).foldl doA D
theorem Gs(D:DataW Nat)(l:List zh)(k:Nat)(h:k<l.length):J0 D l (k+1)=doA (J0 D l k) l[k]:=by grind [J0,xZ]
theorem Ad(l:List zh)(k:Nat)(h:k<l.length):∀ i,i<4->(xq l)[k*4+i]?=(xq [l[k]])[i]?:=by induction l generalizing k with|nil=>simp at h|cons c r ih=>intro i hi;(have e:xq (c::r)=xq [c]++xq r:=by simp[xq]);have b:(xq [c]).length=4:=rfl;grind
theorem jjx(h:IsMap D)(c:zh):IsMap (doA D c):=by unfold doA;split;exact h.put _ _;split;split;exact(h.put _ _).del _;exact h.put _ _;exact h.del _
theorem Cj{fs:Nat->Option j2}:∀(l:List zh) (D:DataW Nat),IsMap D->bu D fs->(∀ c∈l,jew fs c)->bu (l.foldl doA D) fs
 | [],_,_,h,_=>h
 | c::r,D,hm,h,hc=>Cj r (doA D c) (jjx hm c) (jas hm h (hc c (by simp))) (λx hx=>hc x (by simp[hx]))
theorem Rep.jli{wr:World}{ρ:Nat->j4}{l j n:Nat}{lv:Value}{T:jd}(R:Rep w ρ d T)(u:w.heap[d]?=some (.cells #[.map (some l),.map (some j),lv,aA T.calls,aA T.fail,aA T.cut,aA T.wrote] 67 (0,0)))(rn:ρ l=.names)(rs:ρ j=.safe)(s:w.ownsMap prog 9 qy l (Maps.size T.names) T.names)(o:wr.ownsMap prog 9 qy j n D)(r:ja w wr (λi=>i=j))(v:bu D T.files):Rep (wr.setCell (B1 d 2) S5) ρ d { T with safe:=D,late:=[] }/\yc w ρ (wr.setCell (B1 d 2) S5) ρ:=by
 have q:=R.yk;have m:j≠d:=λe=>by rw[e,q] at rs;cases rs
 have b:ja w (wr.setCell (B1 d 2) S5) (λi=>i=j\/i=d):=(r.mono (λ_ _ h=>.inl h)).set (.inr rfl) _;have p:∀ i,ρ i≠.safe->ρ i≠.yk->¬(i=j\/i=d):=zF;refine⟨⟨⟨l,j,S5,?_,rn,rs,b.map s<|p l (by rw[rn];decide)<|by rw[rn];decide,tight<|o.setCell m _,zU _ _ _ _,λg c=>(by cases c)⟩,q,?_,R.l8,v,λc c=>(by cases c),λi hi=>zZ (R.lt i hi) b.size,R.Nt,R.jkf⟩,yc.of b ?_⟩
 .rw[jc (r.same u m.symm)];rfl
 .intro f a t;have k:=R.files f a t;exact k.keep b (λ_ _=>rfl) (p f (by rw[k.1];decide)<|by rw[k.1];decide) (λi hi=>p i zG zG) (λi hi=>p i zG zG)
 grind
theorem Ta{ρ:Nat->j4}{S:jd}(R:Rep w ρ d S)(Y:S.bad=false)(I:Maps.size S.safe+S.late.length<1099511627776):Calls prog 167 #[P1 d] w λe w'=>e=.returned (aA 0)/\∃ ρ',yc w ρ w' ρ'/\Rep w' ρ' d { S.called true with safe:=(S.called true).late.foldl doA (S.called true).safe,late:=[] }:=by
 have a9:Maps.size (S.called true).safe+(S.called true).late.length<1099511627776:=I;go_enter func167,ntmps167;go_wp2_with fail;refine(Ja true R).mono ?_;rintro e H ⟨rfl,s,G1⟩;rw[Y];clear I;generalize v:S.called true=T at *;have HT:=jb v;clear v;obtain⟨nb,p,lv,r,rn,rs,V,os,y,U⟩:=s.mem;have M:=zK 1 r;have L:=zK 2 r;have Z:=zL 2 r;simp at M L;have z:=jb r;have ac:=zO r;clear r;obtain⟨pl,cl,rfl⟩:=jl y;have B:p≠d:=λe=>by rw[e,s.yk] at rs;cases rs
 go_wp2_with fail;go_loopw [12] (λi wr=>∃ k:Nat,k<=T.late.length/\i = aA k/\wr.ownsMap prog 9 qy p (Maps.size T.safe+k) (J0 T.safe T.late k)/\ja H wr (λi=>i=p)) (λi _=>T.late.length-(intOf i).toNat);case atStart=>exact⟨0,zT _,rfl,os,ja.refl _ _⟩
 case round=>obtain⟨k,hk,rfl,c,l⟩:=hrel;have m:=l.same z B.symm;have b1:=zK 1 m;have b2:=zK 2 m;have g2:=zL 2 m;(have G:∀ x,(wr.alloc x).cell? (B1 d 1)=some (.map<|some p):=λx=>(Jq (o:=1) m x));simp at b1 b2;change Hid _ at m;by_cases hlt:k<T.late.length;(· obtain⟨e,h0⟩|⟨g,cap,ae,e,_,W,N,ad,F,A⟩:=y.2;exfalso;omega;· cases e;have j:=y.cells (g:=g) rfl;(have E:¬g=p:=λe=>by have:=U g rfl;rw[e,rs] at this;cases this);(have b:∀ i u,(xq [T.late[k]])[i]?=some u->i<4->wr.cell? ⟨g,k*4+i,none⟩=some u:=λi u hu hi=>by have:=j (k*4+i) u<|(Ad T.late k hlt i hi).trans hu;rw[add_zero] at this;exact l.cell this E);have J:=b 0 _ rfl zC;have e1:=b 1 _ rfl zC;have e2:=b 2 _ rfl zC;have e3:=b 3 _ rfl zC;simp only[Nat.add_zero] at J;have n:=s.Up T.late[k]<|ZL hlt;have aa:=l.size;have ab:p<wr.heap.size:=c.lt;change Hid _ at n;clear j b W A F z M L Z;go_wp2_with fail;go_region_with (go_at_call 145;refine(jed p (Maps.size T.safe+k) (J0 T.safe T.late k) T.late[k].make T.late[k].src T.late[k].dst T.late[k].f _ ?_ zC n.out.1 n.out.2.1 n.out.2.2.1).mono ?_;exact c.alloc _;rintro e O ⟨rfl,q,t⟩);all_goals have D:ja H O (λi=>i=p):=(l.more _).draw.tt t;clear t J e1 e2 e3 G;go_wp2;go_roundw;(case rel=>exact⟨k+1,zC,by go_num,by rw[Gs _ _ _ hlt];exact q,D⟩);grind [intOf]);· (have C:k=T.late.length:=zC);subst C;(have X:J0 T.safe T.late T.late.length=T.late.foldl doA T.safe:=by grind [J0]);rw[X] at c;go_wp2;go_ret;obtain⟨R2,G2⟩:=s.jli z rn rs V c l<|Cj T.late T.safe os.isMap s.J0 s.Up;have v:=HT.out;subst v;exact⟨rfl,ρ,G1.trans G2,R2⟩
theorem Vp{ρ:Nat->j4}{S:jd}(R:Rep w ρ d S)(g:S.bad=true):Calls prog 167 #[P1 d] w λe w'=>e=.returned (aA 1)/\yc w ρ w' ρ/\Rep w' ρ d (S.called true):=by go_enter func167,ntmps167;go_wp2_with (go_at_call 64;refine(Ja true R).mono ?_;rintro e f ⟨rfl,b,c⟩);go_ret;exact⟨rfl,c,b⟩
theorem jiu(n:Int)(H:1099511627776<=n)(G:n<=9223372036854775807){ρ:Nat->j4}{S:jd}(nm:Str)(R:Rep w ρ d S)(Z:Small S)(A:nm.length<1099511627776)(Y:S.bad=false){a:j2}(s:S.at nm=some f)(l:S.files f=some a):Calls prog 106 #[P1 d,je nm,aA 0,aA n] w λe w'=>yc w ρ w' ρ/\Rep w' ρ d (S.called false)/\∃ p' c,e=.returned (.tuple #[.slice p' a.bytes.length c,aA 0])/\w'.ownsRow w.heap.size 5 1 (.slice p' a.bytes.length c) a.bytes.length (a.bytes.map qd):=by
 have i:=ar A;have z:=(Z.files f a l).1;change Hid _ at s l;go_enter func106,ntmps106;go_wp2_with fail;refine(Ja false R).mono ?_;rintro e k ⟨rfl,m,u⟩;obtain⟨y,T,lv,q,rn,rs,x,_⟩:=m.mem;have C:=zK 0 q;simp at C;clear q;obtain⟨V,bv,pv,r,j,W,F,U⟩:=m.files f a l;have D:=zK 0 r;simp at D;clear r;have o:=rz j;obtain⟨X,t,rfl⟩:=jl j;have L:a.bytes.length<=t:=by obtain⟨e,b⟩|⟨g,cap,N,e,_,_,b,_⟩:=j.2;omega;simp_all
 have J:(a.bytes.length:Int)<n:=zC;have I:¬n<0:=zC;have E:IntKind.i64.wrap (a.bytes.length:Int)=(a.bytes.length:Int):=zQ;have M:(a.bytes.length:Int)<=(t:Int):=zC;clear j;go_wp2_with (first|(at_lookup;refine xr _ rfl _ _ rfl y _ _ rfl x _ _ rfl i (.pointer<|some (A2 f)) (congrArg ku s) ?_)|go_in);go_region_with (go_at_call 26;refine(pd k.drew _ a.bytes z<|by exact o).mono ?_;rintro e O ⟨v,B,rfl,b,p⟩);all_goals go_wp2;go_ret2;exact⟨u.trans<|yc.of ((ja.drew k _).tt p) λ_ _ h=>h.elim,m.keep ((ja.drew k λ_=>False).tt p) λ_ h=>h.elim,v,B,rfl,qn b u.keeps.size⟩
def zj:List Nat:=[5,6,4,3,1,0,2]
structure Xv(E:Nat->Addr)(B:Nat)(w:World):Prop where
 cell:∀ g∈zj,w.cell? ⟨g,0,none⟩=some (.iface 344 (.pointer (some (E g))))
 lt:∀ g∈zj,g<B
 block:∀ g∈zj,∃ c t,w.heap[(E g).block]?=some (.cells c t (0,0))
 jfv:∀ g∈zj,(E g).block<B
 spot:∀ g∈zj,(E g).spot=none
 apart:∀ g∈zj,∀ k∈zj,E g=E k->g=k
theorem Xv.keep(h:Xv E B w)(b:ja w w' T)(d:∀ i,T i->B<=i):Xv E B w':=by
 refine⟨λg l=>b.cell (h.cell g l) λm=>?_,h.lt,λg l=>?_,h.jfv,h.spot,h.apart⟩
 .have f:=d _ m;have k:=h.lt g l;simp only at f;omega
 .obtain⟨c,t,j⟩:=h.block g l;exact⟨c,t,b.same j (λm=>by have f:=d _ m;have k:=h.jfv g l;omega)⟩
theorem Xv.same(h:Xv E B w)(b:ja w w' N_):Xv E B w':=h.keep b λ_ h=>h.elim
def jos(E:Nat->Addr)(w:World)(k:Nat):Nat->Value->Prop
 | 0,v=>k∈zj/\v=.iface 344 (.pointer (some (E k)))
 | n+1,v=>∃(b:Nat) (s c:Value),v=.iface 168 (.pointer (some ⟨b,0,none⟩))/\w.heap[b]?=some (.cells #[s,c] 170 (0,0))/\(∀ a,c=.iface 168 (.pointer (some a))->a.block<b)/\jos E w k n c
def Err(E:Nat->Addr)(w:World)(v:Value)(k:Nat):Prop:=∃ n,jos E w k n v
theorem Err.base(k:Nat)(h:k∈zj):Err E w (.iface 344 (.pointer (some (E k)))) k:=⟨0,h,rfl⟩
theorem Err.wrap(b:Nat)(s c:Value)(k:Nat)(f:w.heap[b]?=some (.cells #[s,c] 170 (0,0)))(d:∀ a,c=.iface 168 (.pointer (some a))->a.block<b)(h:Err E w c k):Err E w (.iface 168 (P1 b)) k:=by obtain⟨n,h⟩:=h;exact⟨n+1,b,s,c,rfl,f,d,h⟩
theorem Err.inv(h:Err E w v k):(k∈zj/\v=.iface 344 (.pointer (some (E k))))\/∃(b:Nat) (s c:Value),v=.iface 168 (P1 b)/\w.heap[b]?=some (.cells #[s,c] 170 (0,0))/\(∀ a,c=.iface 168 (.pointer (some a))->a.block<b)/\Err E w c k:=by obtain⟨n,h⟩:=h;cases n with|zero=>exact .inl h|succ n=>obtain⟨b,s,c,e,g,f,d⟩:=h;exact .inr ⟨b,s,c,e,g,f,n,d⟩
theorem Err.elim{M:Value->Prop}(j:k∈zj->M (.iface 344 (.pointer (some (E k)))))(i:∀(b:Nat) (s c:Value),w.heap[b]?=some (.cells #[s,c] 170 (0,0))->(∀ a,c=.iface 168 (.pointer (some a))->a.block<b)->M c->M (.iface 168 (P1 b)))(h:Err E w v k):M v:=by obtain⟨n,h⟩:=h;induction n generalizing v with|zero=>obtain⟨f,rfl⟩:=h;exact j f|succ n ih=>obtain⟨b,s,c,rfl,g,d,h⟩:=h;exact i b s c g d<|ih h
theorem Err.keep(h:Err E w v k)(d:ja w w' T)(f:∀ i c,T i->w.heap[i]?≠some (.cells c 170 (0,0))):Err E w' v k:=Err.elim (M:=λv=>Err E w' v k) (λh=>.base k h) (λb s c g j ih=>.wrap b s c k (d.same g λl=>f b _ l g) j ih) h
theorem Err.same(h:Err E w v k)(b:ja w w' N_):Err E w' v k:=h.keep b λ_ _ h=>h.elim
theorem Err.shape(h:Err E w v k):∃ t a,v=.iface t (.pointer (some a)):=by obtain⟨_,rfl⟩|⟨b,s,c,rfl,_⟩:=h.inv;exact⟨_,_,rfl⟩;exact⟨_,_,rfl⟩
theorem Err.lt(h:Err E w v k):∀ a,v=.iface 168 (.pointer (some a))->a.block<w.heap.size:=by intro a e;obtain⟨_,rfl⟩|⟨b,s,c,rfl,d,_⟩:=h.inv;cases e;grind
theorem Jd(s:ByteArray)(h:Err E w v k):Calls prog 58 #[.string s,v] w λe w'=>∃ v',e=.returned v'/\Err E w' v' k/\ja w w' N_:=by obtain⟨t,a,rfl⟩:=h.shape;go_enter func58,ntmps58;go_wp2;go_ret;exact⟨_,rfl,.wrap _ _ _ _ (jf w _) h.lt<|h.same<|ja.alloc w _ _,ja.alloc w _ _⟩
