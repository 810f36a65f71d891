/-
  D: Range Append SyncDir ReadAll Err.
-/
import Derived.Sort.KeysCollected
import Derived.Test.YtnipbplghijdmaaGreatDoorD06
set_option maxRecDepth 100000
set_option maxHeartbeats 8000000
set_option linter.unusedVariables false
set_option linter.unusedSimpArgs false
namespace Go.Proofs.YtnipbplghijdmaaGreatDoor
open RowKit Maps WideShapes Go.Proofs.Tryz
variable {D:DataW Nat} {B d f k:Nat} {w w':World} {v:Value} {T:Nat->Prop} {E:Nat->Addr}
theorem Y6(w:World){g:Array Oper}{rest:List Oper}{o:Oper}{a:Act}{Q:Exit->Act->World->Prop}(N:o.guard=none)(G:Operand)(m:o.op=Op.next G false)(b r n:Nat)(D:DataW Nat)(left:Lit->Bool)(j:Nat)(p:a.eval G = .pointer (some ⟨r,0,none⟩))(h:w.ranges prog 9 yi b r n D left j){fs:Nat->Option jz}(O:bm D fs)(l:j=0->(∀ kl,left kl=false)->wpList prog g Q rest (a.put o.dst (.tuple #[.bool false])) w)(k:∀(x:Str) (f:Nat) (w':World) (c:Nat),x.length<=maxLen->left (.string x)=true->(∃ fa,fs f=some fa)->(∀ zd,D.atKey (.string x) zd = .held f) ->
 w'.ranges prog 9 yi b r n D (fun z=>left z&&!z.sameKey (.string x)) c->c<j->w.grownBy w' (some r)->w'.heap.size=w.heap.size ->
 (Instr.entry (.pointer (some ⟨r,0,none⟩))).run prog w' = .ok (.tuple #[jf x,.pointer (some ⟨f,0,none⟩)]) w' ->
 wpList prog g Q rest (a.put o.dst (.tuple #[.bool true,jf x,.pointer (some ⟨f,0,none⟩)])) w') :
 wpList prog g Q (o::rest) a w:=by
 refine wpList_plain N fun K' hK'=>?_;unfold Oper.wp;rcases h.next law o.type with⟨R,M,d⟩|⟨key,v,kl,y,w',c,q,C,L,i,d,A,B,E,u,F⟩
 ·simp[execOp,m,p,d,Result.andThen]
  exact hK' _ _ (l R M)
 ·obtain⟨x,J,rfl,s⟩:=Maps.keyOf_str underlying9 q
  obtain⟨f,fa,U,T⟩:=O (.string x) (has_true_of_atKey i);obtain⟨I,_⟩:=A5 L;have H:y.1 = .held f:=(i .nil).symm.trans U;rw[H] at I;have S:v = .pointer (some ⟨f,0,none⟩):=I;have t:key=jf x:=J;subst S t;simp[execOp,m,p,d,Result.andThen];exact hK' _ _ (k x f w' c s C ⟨fa,T⟩ (fun zd=>(i zd).trans H) A B E u F)
def entriesOf:DataW Nat->List (Lit×DataW Nat)
 | .map es=>es
 | _=>[]
def Sb(fs:Nat->Option jz)(y:DataW Nat):Nat:=((fileOf y).bind fs).elim 0 (fun a=>a.bytes.length)
def du(fs:Nat->Option jz)(D:DataW Nat)(left:Lit->Bool):Nat:=((entriesOf D).map fun p=>if left p.1 then 0 else Sb fs p.2).sum
def total(fs:Nat->Option jz)(D:DataW Nat):Nat:=((entriesOf D).map fun p=>Sb fs p.2).sum
theorem Ug(g:Lit×DataW Nat->Nat)(left:Lit->Bool)(b:Lit)(o:WideAt.IsKeyLit b)(n:left b=true):∀ es:List (Lit×DataW Nat),es.Pairwise (fun p q=>p.1≠q.1)->∀ p∈es,p.1=b ->
 (es.map fun q=>if (left q.1&&!q.1.sameKey b)then 0 else g q).sum=(es.map fun q=>if left q.1 then 0 else g q).sum+g p:=by
 have other:∀ es:List (Lit×DataW Nat),(∀ q∈es,q.1≠b)->(es.map fun q=>if (left q.1&&!q.1.sameKey b)then 0 else g q)=es.map fun q=>if left q.1 then 0 else g q:=by
  intro es h;apply ZR;intro q f;rw[sameKey_ne (h q f)];simp
 intro es
 induction es with
 | nil=>intro _ p i;cases i
 | cons y r ih =>
  intro l p i c;obtain⟨m,t⟩:=XD.1 l;rcases zF.1 i with e|d
  ·subst e
   have s:∀ q∈r,q.1≠b:=fun q f e=>m q f (c.trans e.symm);have k:p.1.sameKey b=true:=by rw[c];exact WideAt.sameKey_self o
   have j:left p.1=true:=by rw[c];exact n
   simp only[zP,List.sum_cons,other r s,k,j];simp;omega
  ·have k:y.1≠b:=fun e=>m p d (e.trans c.symm)
   have j:(left y.1&&!y.1.sameKey b)=left y.1:=by rw[sameKey_ne k];simp
   simp only[zP,List.sum_cons,ih t p d c,j];omega
theorem Uh{fs:Nat->Option jz}{left:Lit->Bool}{x:Str}{a:jz}(m:Tidy D)(j:left (.string x)=true)(c:∀ zd,D.atKey (.string x) zd = .held f)(l:fs f=some a) :
 du fs D (fun z=>left z&&!z.sameKey (.string x))=du fs D left+a.bytes.length:=by
 obtain⟨n,rfl,g⟩:=m;have k:=has_true_of_atKey c;obtain⟨p,b,i⟩:=List.any_eq_true.1 k;have d:p.1 = .string x:=WideAt.sameKey_eq i;have o:p.2 = .held f:=by rw[<-c .nil,<-d];exact(WideAt.atKey_mem .nil (by rw[d];trivial) g b).symm
 have:=Ug (fun q=>Sb fs q.2) left (.string x) (by trivial) j n g p b d;simp only[du,entriesOf];rw[this,o];simp[Sb,fileOf,l]
theorem Ps{fs:Nat->Option jz}(f:Canon D):du fs D (Maps.has D)=0:=by
 obtain⟨b,rfl,_,d⟩:=f;simp only[du,entriesOf]
 have h:(b.map fun p=>if Maps.has (.map b) p.1=true then 0 else Sb fs p.2)=b.map fun _=>0:=by
  apply ZR;intro p c;have g:Maps.has (.map b) p.1=true:=List.any_eq_true.2 ⟨p,c,WideAt.sameKey_self (d p c)⟩;rw[if_pos g]
 rw[h];generalize b=l
 induction l with
 | nil=>rfl
 | cons y r ih=>simpa using ih
theorem ja1{fs:Nat->Option jz}{left:Lit->Bool}(h:∀ k,left k=false):du fs D left=total fs D:=by
 simp[du,total,h]
theorem Pt{fs:Nat->Option jz}(left:Lit->Bool):du fs D left<=total fs D:=by
 unfold du total;generalize entriesOf D=l
 induction l with
 | nil=>simp
 | cons y r ih =>
  simp only[zP,List.sum_cons]
  split<;>omega
theorem Ts{ρ:Nat->j3}{d:Addr}{c:Nat}{src:List UInt8}(f:ρ d.block = .none)(l:src.length<=c)(b:∀ j u,(src.map j5)[j]?=some u->w.cell? (d.add j)=some u)(k:Nat)(i:k<=src.length) :
 Arg w ρ (.slice (some d) k c) (src.take k):=by
 have g:(src.take k).length=k:=by simp;omega
 refine .inr ⟨d,c,by rw[g],by omega,f,fun j u hu=>b j u ?_⟩;rw[ZN] at hu ⊢;rw[xW] at hu
 split at hu
 ·exact hu
 ·simp at hu
theorem Arg.keep{ρ g:Nat->j3}{l:List UInt8}(h:Arg w ρ v l)(o:ja w w' T)(q:∀ i,i<w.heap.size->ρ i = .none->¬T i)(n:∀ i,ρ i = .none->i<w.heap.size->g i = .none)(d:0<l.length):Arg w' g v l:=by
 rcases h with⟨_,rfl⟩|⟨m,c,e,p,k,b⟩
 ·simp at d
 ·have f:m.block<w.heap.size:=by
   have r:=b 0 (j5 l[0]) (by simp[xB d]);have:=xI w _ r;rwa [Ju] at this
  refine .inr ⟨m,c,e,p,n _ k f,fun j u hu=>o.cell (b j u hu) (by rw[Ju];exact q _ f k)⟩
theorem Dd{ρ:Nat->j3}{S:jc}(nm:Str)(src:List UInt8)(A:Addr)(c:Nat)(R:Rep w ρ d S)(Z:Small S)(hn:nm.length<1099511627776){a:jz}(hA:S.at nm=some f)(ha:S.files f=some a)(n:0<src.length)(a4:src.length<1099511627776)(hv:Arg w ρ (.slice (some A) src.length c) src)(hc:src.length<=c)(ab:c<=maxLen)(aq:total S.files S.names<1099511627776) :
 Calls prog 62 #[.pointer (some ⟨d,0,none⟩),jf nm,.slice (some A) src.length c] w fun e w'=>∃ ρ',x7 w ρ w' ρ' /\
  (((S.bad=true\/20000<src.length+total S.files S.names)/\e = .returned (.int .i64 1)/\Rep w' ρ' d ((S.called true).withFile f (a.put (src.take (src.length/2))))) \/
   (S.bad=false/\src.length+total S.files S.names<=20000/\e = .returned (.int .i64 0)/\Rep w' ρ' d ((S.called true).withFile f (a.put src)))):=by
 have T:=an hn;have HA:=jb hA;have HF:=jb ha;clear hA ha;have E:S.bad=true\/S.bad=false:=by cases S.bad<;>simp
 have W:20000<src.length+total S.files S.names\/¬20000<src.length+total S.files S.names:=by omega
 unfold maxLen at ab;go_enter func62,ntmps62;go_wp2_with fail;refine(zv true R).mono ?_;rintro e y ⟨rfl,X,G1⟩;obtain⟨C,sm,lv,Y,rn,rs,V,_⟩:=X.mem;have c0:=zA (o:=0) Y;simp at c0;have HD:=jb Y;clear Y;have a3:Arg y ρ (.slice (some A) src.length c) src:=hv.keep G1.keeps (fun i _ h1 h2=>h2 h1) (fun _ h _=>h) n;have hL:=X.z7;have q:=V.canon law;have g:=V.tidy law;have hz:=(Z.called true).files;clear hv
 go_wp2_with (first
  | (at_lookup;refine xf _ rfl _ _ rfl C _ _ rfl V _ _ rfl T (.pointer (some ⟨f,0,none⟩)) (congrArg fy HA.out) ?_)
  | (at_range;refine wpList_range_own _ rfl _ 98 rfl 9 146 law underlying98 _ C _ _ rfl V ?_;intro w0 m L a6)
  | go_in)
 go_frame
 go_loopw [9] (fun v wr=>∃(left:Lit->Bool) (O:Nat),wr.ranges prog 9 yi C y.heap.size (Maps.size (S.called true).names) (S.called true).names left O /\
  v = .int .i64 ((src.length:Int)+(du S.files S.names left:Int))/\ja y wr (fun _=>False))
  (fun _ wr=>wr.rangeLeft C y.heap.size)
 case atStart=>exact⟨_,_,m,by rw[show du S.files S.names (Maps.has (S.called true).names)=0 from Ps q];simp,ja.grown L |>.mono (fun _ _ h=>by simp at h)⟩
 case round =>
  obtain⟨left,O,s,rfl,k⟩:=hrel;have a9:=Pt (fs:=S.files) (D:=S.names) left
  go_wp2_with (first
   | (at_next;refine Y6 _ rfl _ rfl C y.heap.size _ _ _ _ rfl s hL ?_ ?_)
   | go_in)
  ·intro ae I
   have he:du S.files S.names left=total S.files S.names:=ja1 I;have Rr:Rep wr ρ d (S.called true):=X.keep k (fun _ h=>h.elim);have Gr:x7 w ρ wr ρ:=G1.trans (x7.of k (fun _ _ h=>h.elim));have H:Arg wr ρ (.slice (some A) src.length c) src:=a3.keep k (fun _ _ _ h=>h) (fun _ h _=>h) n;have t:(S.called true).files f=some a:=HF.out;clear s hL q g hz m L a6 a9 ae I
   have b:Hid (ρ A.block = .none/\∀ j u,(src.map j5)[j]?=some u->wr.cell? (A.add j)=some u):=by
    rcases H with⟨e,_⟩|⟨be,c',e,_,hr,ac⟩
    ·cases e
    ·cases e;exact⟨hr,ac⟩
   rcases E with E|E
   ·go_wp2_with (go_at_call 103;refine(Ni Rr (Z.called true) t (src.take (src.length/2)) (by simp;omega) _ (Ts b.out.1 hc b.out.2 _ (by omega))).mono ?_;rintro e w3 ⟨rfl,B,F,G⟩)
    go_ret;exact⟨B,Gr.trans G,.inl ⟨.inl E,rfl,F⟩⟩
   ·rcases W with W|W
    ·have ah:(20000:Int)<(src.length:Int)+(total S.files S.names:Int):=by omega
     go_wp2_with (go_at_call 103;refine(Ni Rr (Z.called true) t (src.take (src.length/2)) (by simp;omega) _ (Ts b.out.1 hc b.out.2 _ (by omega))).mono ?_;rintro e w3 ⟨rfl,B,F,G⟩)
     go_ret;exact⟨B,Gr.trans G,.inl ⟨.inr W,rfl,F⟩⟩
    ·have ah:¬(20000:Int)<(src.length:Int)+(total S.files S.names:Int):=by omega
     go_wp2_with (go_at_call 103;refine(Ni Rr (Z.called true) t src a4 _ H).mono ?_;rintro e w3 ⟨rfl,B,F,G⟩)
     go_ret;exact⟨B,Gr.trans G,.inr ⟨E,by omega,rfl,F⟩⟩
  ·intro x f' w2 U b8 a8 fa M ag l a7 aa a5 ba
   have r:du S.files S.names (fun z=>left z&&!z.sameKey (.string x))=du S.files S.names left+fa.bytes.length:=Uh g a8 ag M;have p:=Pt (fs:=S.files) (D:=S.names) (fun z=>left z&&!z.sameKey (.string x));have bb:du S.files S.names left+fa.bytes.length<=total S.files S.names:=by rw[<-r];exact p
   have HS:=jb r;clear r p;have J:ja y w2 (fun _=>False):=k.trans (ja.grown aa) (fun i hi e=>(by have:=Option.some.inj e;omega));obtain⟨b4,bd,b6,N,af,b5,b9,b3⟩:=X.files f' fa M;obtain⟨b7,bc,rfl⟩:=jl af;have b0:=zA (o:=0) (J.same N id);simp at b0;clear a5 N;go_wp2;go_roundw
   case rel=>exact⟨_,U,l,by rw[HS.out];push_cast;go_num,J⟩
   case measure=>rw[l.left_eq,s.left_eq];exact a7
def Jp(D:DataW Nat)(l:List y9)(k:Nat):DataW Nat:=(l.take k).foldl doA D
theorem Cp(D:DataW Nat)(l:List y9)(k:Nat)(h:k<l.length):Jp D l (k+1)=doA (Jp D l k) l[k]:=by
 unfold Jp;rw[XG h,XM];rfl
theorem sj(l:List y9)(k:Nat)(h:k<l.length):∀ i,i<4->(xe l)[k*4+i]?=(xe [l[k]])[i]?:=by
 induction l generalizing k with
 | nil=>simp at h
 | cons c r ih =>
  intro i d;have e:xe (c::r)=xe [c]++xe r:=by simp[xe]
  have b:(xe [c]).length=4:=rfl;rw[e]
  cases k with
  | zero=>simp only[Nat.zero_mul,xK,List.getElem_cons_zero];rw[XS (by omega)]
  | succ k =>
   rw[ZW (by omega),b,show(k+1)*4+i-4=k*4+i by omega,ih k (by simpa using h) i d];simp
theorem jd6(h:IsMap D)(c:y9):IsMap (doA D c):=by
 unfold doA
 split
 ·exact h.put _ _
 ·split
  ·split
   ·exact(h.put _ _).del _
   ·exact h.put _ _
  ·exact h.del _
theorem vt{fs:Nat->Option jz}:∀(l:List y9) (D:DataW Nat),IsMap D->bm D fs->(∀ c∈l,Wn fs c)->bm (l.foldl doA D) fs
 | [],_,_,h,_=>h
 | c::r,D,hm,h,hc=>vt r (doA D c) (jd6 hm c) (Sc hm h (hc c (by simp))) (fun x hx=>hc x (by simp[hx]))
theorem Rep.jff{wr:World}{ρ:Nat->j3}{l j n:Nat}{lv:Value}{T:jc}(R:Rep w ρ d T)(v:w.heap[d]?=some (.cells #[.map (some l),.map (some j),lv,.int .i64 T.calls,.int .i64 T.fail,.int .i64 T.cut,.int .i64 T.wrote] 101 (0,0)))(r:ρ l = .names)(rs:ρ j = .safe)(t:w.ownsMap prog 9 yi l (Maps.size T.names) T.names)(o:wr.ownsMap prog 9 yi j n D)(s:ja w wr (fun i=>i=j))(x:bm D T.files) :
 Rep (wr.setCell ⟨d,2,none⟩ (.slice none 0 0)) ρ d { T with safe:=D,late:=[] }/\x7 w ρ (wr.setCell ⟨d,2,none⟩ (.slice none 0 0)) ρ:=by
 have p:=R.xi;have m:j≠d:=fun e=>by rw[e,p] at rs;cases rs
 have b:ja w (wr.setCell ⟨d,2,none⟩ (.slice none 0 0)) (fun i=>i=j\/i=d):=(s.mono (fun _ _ h=> .inl h)).set (.inr rfl) _
 have q:∀ i,ρ i≠ .safe->ρ i≠ .xi->¬(i=j\/i=d):=by
  rintro i z y (e|e)
  ·exact z (e▸rs)
  ·exact y (e▸p)
 refine⟨⟨⟨l,j,.slice none 0 0,?_,r,rs,b.map t (q l (by rw[r];decide) (by rw[r];decide)),tight (o.setCell m _),ZL _ _ _ _,fun g hg=>(by cases hg)⟩,p,?_,R.z7,x,fun c hc=>(by cases hc),fun i hi=>ZH (R.lt i hi) b.size,R.Oi,R.jaq⟩,x7.of b ?_⟩
 ·rw[jd (s.same v m.symm)];rfl
 ·intro f a u
  have k:=R.files f a u;exact k.keep b (fun _ _=>rfl) (q f (by rw[k.1];decide) (by rw[k.1];decide)) (fun i hi=>q i (by rw[hi];exact fun h=>by cases h) (by rw[hi];exact fun h=>by cases h)) (fun i hi=>q i (by rw[hi];exact fun h=>by cases h) (by rw[hi];exact fun h=>by cases h))
 ·rintro i _ (e|e)
  ·rw[e,rs];decide
  ·rw[e,p];decide
theorem M4{ρ:Nat->j3}{S:jc}(R:Rep w ρ d S)(hB:S.bad=false)(J:Maps.size S.safe+S.late.length<1099511627776) :
 Calls prog 197 #[.pointer (some ⟨d,0,none⟩)] w fun e w'=>e = .returned (.int .i64 0)/\∃ ρ',x7 w ρ w' ρ' /\
  Rep w' ρ' d { S.called true with safe:=(S.called true).late.foldl doA (S.called true).safe,late:=[] }:=by
 have ac:Maps.size (S.called true).safe+(S.called true).late.length<1099511627776:=J;go_enter func197,ntmps197;go_wp2_with fail;refine(zv true R).mono ?_;rintro e I ⟨rfl,s,G1⟩;rw[hB];clear J;generalize y:S.called true=T at *
 have HT:=jb y;clear y;obtain⟨nb,n,lv,r,V,rs,X,os,z,W⟩:=s.mem;have N:=zA (o:=1) r;have M:=zA (o:=2) r;have f2:=zB (o:=2) r;simp at N M;have A:=jb r;have af:=zC r;clear r;obtain⟨pl,cl,rfl⟩:=jl z;have C:n≠d:=fun e=>by rw[e,s.xi] at rs;cases rs
 go_wp2_with fail
 go_loopw [12] (fun i wr=>∃ k:Nat,k<=T.late.length/\i = .int .i64 k/\wr.ownsMap prog 9 yi n (Maps.size T.safe+k) (Jp T.safe T.late k)/\ja I wr (fun i=>i=n))
  (fun i _=>T.late.length-(intOf i).toNat)
 case atStart=>exact⟨0,zG _,rfl,os,ja.refl _ _⟩
 case round =>
  obtain⟨k,hk,rfl,c,m⟩:=hrel;have l:=m.same A.out C.symm;have b1:=zA (o:=1) l;have b2:=zA (o:=2) l;have g2:=zB (o:=2) l;have H:∀ x,(wr.alloc x).cell? ⟨d,1,none⟩=some (.map (some n)):=fun x=>(Jf (o:=1) l x);simp at b1 b2;have ai:=jb l;clear l;by_cases hlt:k<T.late.length
  ·rcases z.2 with⟨e,h0⟩|⟨g,cap,ah,e,_,Y,O,ag,G,B⟩
   ·exfalso;have:T.late.length=0:=h0;omega
   ·cases e
    have j:=z.cells (g:=g) rfl;have F:¬g=n:=fun e=>by have:=W g rfl;rw[e,rs] at this;cases this
    have b:∀ i u,(xe [T.late[k]])[i]?=some u->i<4->wr.cell? ⟨g,k*4+i,none⟩=some u:=fun i u hu hi=>by
     have:=j (k*4+i) u ((sj T.late k hlt i hi).trans hu);rw[add_zero] at this;exact m.cell this F
    have L:=b 0 _ rfl (by omega);have e1:=b 1 _ rfl (by omega);have e2:=b 2 _ rfl (by omega);have e3:=b 3 _ rfl (by omega);simp only[Nat.add_zero] at L;have t:=s.N8 T.late[k] (xV hlt);have ad:=m.size;have ae:n<wr.heap.size:=c.lt;have p:=jb t;clear j b t Y B G A N M f2;go_wp2_with fail
    go_region_with (go_at_call 81;refine(Vy n (Maps.size T.safe+k) (Jp T.safe T.late k) T.late[k].make T.late[k].src T.late[k].dst T.late[k].f _ ?_ (by omega) p.out.1 p.out.2.1 p.out.2.2.1).mono ?_;exact c.alloc _;rintro e U ⟨rfl,q,v⟩)
    all_goals
     have E:ja I U (fun i=>i=n):=(m.more _).draw.tt v;clear v L e1 e2 e3 H;go_wp2;go_roundw
     case rel=>exact⟨k+1,by omega,by go_num,by rw[Cp _ _ _ hlt];exact q,E⟩
     case measure=>simp[intOf];omega
  ·have D:k=T.late.length:=by omega
   subst D;have Z:Jp T.safe T.late T.late.length=T.late.foldl doA T.safe:=by unfold Jp;rw[xR]
   rw[Z] at c;go_wp2;go_ret;obtain⟨R2,G2⟩:=s.jff A.out V rs X c m (vt T.late T.safe os.isMap s.Jp s.N8);have y:=HT.out;subst y;exact⟨rfl,ρ,G1.trans G2,R2⟩
theorem Pr{ρ:Nat->j3}{S:jc}(R:Rep w ρ d S)(g:S.bad=true) :
 Calls prog 197 #[.pointer (some ⟨d,0,none⟩)] w fun e w'=>e = .returned (.int .i64 1)/\x7 w ρ w' ρ/\Rep w' ρ d (S.called true):=by
 go_enter func197,ntmps197
 go_wp2_with (go_at_call 102;refine(zv true R).mono ?_;rintro e f ⟨rfl,b,c⟩)
 go_ret;exact⟨rfl,c,b⟩
theorem jc6(n:Int)(L:1099511627776<=n)(J:n<=9223372036854775807){ρ:Nat->j3}{S:jc}(nm:Str)(R:Rep w ρ d S)(Z:Small S)(B:nm.length<1099511627776)(hB:S.bad=false){a:jz}(t:S.at nm=some f)(l:S.files f=some a) :
 Calls prog 176 #[.pointer (some ⟨d,0,none⟩),jf nm,.int .i64 0,.int .i64 n] w fun e w'=>x7 w ρ w' ρ/\Rep w' ρ d (S.called false) /\
  ∃ p' c,e = .returned (.tuple #[.slice p' a.bytes.length c,.int .i64 0])/\w'.ownsRow w.heap.size 5 1 (.slice p' a.bytes.length c) a.bytes.length (a.bytes.map j5):=by
 have i:=an B;have A:=(Z.files f a l).1;have G:=jb t;have F:=jb l;clear t l;go_enter func176,ntmps176;go_wp2_with fail;refine(zv false R).mono ?_;rintro e k ⟨rfl,m,v⟩;obtain⟨z,W,lv,r,Y,rs,y,_⟩:=m.mem;have D:=zA (o:=0) r;simp at D;clear r;obtain⟨rf,bv,pv,s,j,rb,I,X⟩:=m.files f a F.out;have E:=zA (o:=0) s;simp at E;clear s;have p:=mg j;obtain⟨pb,u,rfl⟩:=jl j
 have O:a.bytes.length<=u:=by
  rcases j.2 with⟨e,h0⟩|⟨g,cap,U,e,_,_,h1,_⟩
  ·injection e with e1 e2 e3;omega
  ·injection e with e1 e2 e3;omega
 have N:(a.bytes.length:Int)<n:=by omega
 have M:¬n<0:=by omega
 have H:IntKind.i64.wrap (a.bytes.length:Int)=(a.bytes.length:Int):=zE (by omega) (by omega);have T:(a.bytes.length:Int)<=(u:Int):=by omega
 clear j
 go_wp2_with (first
  | (at_lookup;refine xf _ rfl _ _ rfl z _ _ rfl y _ _ rfl i (.pointer (some ⟨f,0,none⟩)) (congrArg fy G.out) ?_)
  | go_in)
 go_region_with (go_at_call 85;refine(tz k.drew _ a.bytes A (by exact p)).mono ?_;rintro e V ⟨x,C,rfl,b,q⟩)
 all_goals
  go_wp2;go_ret2;exact⟨v.trans (x7.of ((ja.drew k _).tt q) (fun _ _ h=>h.elim)),m.keep ((ja.drew k (fun _=>False)).tt q) (fun _ h=>h.elim),x,C,rfl,xd b v.keeps.size⟩
def za:List Nat:=[7,8,4,3,2,1,0]
structure Xg(E:Nat->Addr)(B:Nat)(w:World):Prop where
 cell:∀ g∈za,w.cell? ⟨g,0,none⟩=some (.iface 371 (.pointer (some (E g))))
 lt:∀ g∈za,g<B
 block:∀ g∈za,∃ c t,w.heap[(E g).block]?=some (.cells c t (0,0))
 jau:∀ g∈za,(E g).block<B
 spot:∀ g∈za,(E g).spot=none
 apart:∀ g∈za,∀ k∈za,E g=E k->g=k
theorem Xg.keep(h:Xg E B w)(b:ja w w' T)(d:∀ i,T i->B<=i):Xg E B w':=by
 refine⟨fun g hg=>b.cell (h.cell g hg) (fun ht=>?_),h.lt,fun g hg=>?_,h.jau,h.spot,h.apart⟩
 ·have f:=d _ ht
  have k:=h.lt g hg;simp only at f;omega
 ·obtain⟨c,t,j⟩:=h.block g hg
  exact⟨c,t,b.same j (fun ht=>by have f:=d _ ht;have k:=h.jau g hg;omega)⟩
theorem Xg.same(h:Xg E B w)(b:ja w w' (fun _=>False)):Xg E B w':=h.keep b (fun _ h=>h.elim)
def jhy(E:Nat->Addr)(w:World)(k:Nat):Nat->Value->Prop
 | 0,v=>k∈za/\v = .iface 371 (.pointer (some (E k)))
 | n+1,v=>∃(b:Nat) (s c:Value),v = .iface 246 (.pointer (some ⟨b,0,none⟩))/\w.heap[b]?=some (.cells #[s,c] 248 (0,0))/\(∀ a,c = .iface 246 (.pointer (some a))->a.block<b)/\jhy E w k n c
def Err(E:Nat->Addr)(w:World)(v:Value)(k:Nat):Prop:=∃ n,jhy E w k n v
theorem Err.base(k:Nat)(h:k∈za):Err E w (.iface 371 (.pointer (some (E k)))) k:=⟨0,h,rfl⟩
theorem Err.wrap(b:Nat)(s c:Value)(k:Nat)(f:w.heap[b]?=some (.cells #[s,c] 248 (0,0)))(d:∀ a,c = .iface 246 (.pointer (some a))->a.block<b)(h:Err E w c k):Err E w (.iface 246 (.pointer (some ⟨b,0,none⟩))) k:=by
 obtain⟨n,h⟩:=h;exact⟨n+1,b,s,c,rfl,f,d,h⟩
theorem Err.inv(h:Err E w v k):(k∈za/\v = .iface 371 (.pointer (some (E k)))) \/
 ∃(b:Nat) (s c:Value),v = .iface 246 (.pointer (some ⟨b,0,none⟩))/\w.heap[b]?=some (.cells #[s,c] 248 (0,0))/\(∀ a,c = .iface 246 (.pointer (some a))->a.block<b)/\Err E w c k:=by
 obtain⟨n,h⟩:=h
 cases n with
 | zero=>exact .inl h
 | succ n =>
  obtain⟨b,s,c,e,g,f,d⟩:=h;exact .inr ⟨b,s,c,e,g,f,n,d⟩
theorem Err.elim{M:Value->Prop}(j:k∈za->M (.iface 371 (.pointer (some (E k)))))(i:∀(b:Nat) (s c:Value),w.heap[b]?=some (.cells #[s,c] 248 (0,0))->(∀ a,c = .iface 246 (.pointer (some a))->a.block<b)->M c->M (.iface 246 (.pointer (some ⟨b,0,none⟩))))(h:Err E w v k):M v:=by
 obtain⟨n,h⟩:=h
 induction n generalizing v with
 | zero=>obtain⟨f,rfl⟩:=h;exact j f
 | succ n ih =>
  obtain⟨b,s,c,rfl,g,d,h⟩:=h;exact i b s c g d (ih h)
theorem Err.keep(h:Err E w v k)(d:ja w w' T)(f:∀ i c,T i->w.heap[i]?≠some (.cells c 248 (0,0))):Err E w' v k :=
 Err.elim (M:=fun v=>Err E w' v k) (fun h=> .base k h) (fun b s c hb hl ih=> .wrap b s c k (d.same hb (fun ht=>f b _ ht hb)) hl ih) h
theorem Err.same(h:Err E w v k)(b:ja w w' (fun _=>False)):Err E w' v k:=h.keep b (fun _ _ h=>h.elim)
theorem Err.shape(h:Err E w v k):∃ t a,v = .iface t (.pointer (some a)):=by
 rcases h.inv with⟨_,rfl⟩|⟨b,s,c,rfl,_⟩
 ·exact⟨_,_,rfl⟩
 ·exact⟨_,_,rfl⟩
theorem Err.lt(h:Err E w v k):∀ a,v = .iface 246 (.pointer (some a))->a.block<w.heap.size:=by
 intro a e;rcases h.inv with⟨_,rfl⟩|⟨b,s,c,rfl,d,_⟩
 ·cases e
 ·cases e;exact zC d
theorem zw(s:ByteArray)(h:Err E w v k) :
 Calls prog 128 #[.string s,v] w fun e w'=>∃ v',e = .returned v'/\Err E w' v' k/\ja w w' (fun _=>False):=by
 obtain⟨t,a,rfl⟩:=h.shape;go_enter func128,ntmps128;go_wp2;go_ret;exact⟨_,rfl,.wrap _ _ _ _ (je w _) h.lt (h.same (ja.alloc w _ _)),ja.alloc w _ _⟩
end Go.Proofs.YtnipbplghijdmaaGreatDoor
