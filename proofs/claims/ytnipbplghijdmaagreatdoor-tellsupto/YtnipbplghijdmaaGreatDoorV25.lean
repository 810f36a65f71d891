/-
  V: LayersA RunA RunB RunC RunD RunE RunF RunG RunH RunI RunJ LayersB LayersC.
-/
import Derived.Test.YtnipbplghijdmaaGreatDoorV24
set_option maxRecDepth 100000
set_option maxHeartbeats 8000000
set_option linter.unusedVariables false
set_option linter.unusedSimpArgs false
namespace Go.Proofs.YtnipbplghijdmaaGreatDoor
open RowKit Maps WideShapes Go.Proofs.Tryz
variable {E:Nat->Addr} {B F b c cap g i j k m n r x y:Nat} {w w':World} {e t:TypeId} {hv pv rv v:Value} {xs:List Value} {l:List (Nat×Nat×Str)} {u:Tmp} {tmps:Array Value} {q:List UInt8} {ps:List (Nat×Str)} {T:Nat->Prop} {p:Option Addr} {es:List Rf.Ch} {bl:List (List Rf.Ch)}
abbrev Yk(d:Nat)(n:Nat)(key:Str):Value:= .func (.func 212) #[.agg #[.pointer (some ⟨d,0,none⟩),jf (jo n),jf key]] #[]
theorem Sb(d n:Nat)(key:Str)(c:n<=9223372036854775807)(H:Env E B w) :
 Calls prog 175 #[.pointer (some ⟨d,0,none⟩),j7 n,jf key] w fun e w'=>e = .returned (Yk d n key)/\ja w w' (fun _=>False):=by
 go_enter func175,ntmps175;go_wp2_with fail;refine(fy n c H).mono ?_;rintro e f ⟨rfl,b⟩;go_wp2;go_ret;exact⟨rfl,b⟩
theorem Tryz.Rw:(prog.info? 132).map (fun i=>(i.zero,i.size,i.bytes))=some (some .nilFunc,1,8):=by kernel_rfl
theorem je2(d n:Nat)(key:Str):∀ u∈[Yk d n key],u.oneCell'=true:=by intro u b;simp at b;subst b;rfl
theorem Zr(d:Nat)(m:Rf.Man)(rv last mv:Value)(R cl:Bool)(key:Str)(H:Env E B w)(x:w.heap[b]?=some (.cells (qu (.pointer (some ⟨d,0,none⟩)) (jg m.next) (jg m.last) (jg m.log) (jg m.base) rv last mv R cl) t (0,0)))(hv:Jw w rv m.runs)(hl:m.runs.length<524288)(Y:∀ n∈m.settled,n<=9223372036854775807) :
 Calls prog 124 #[.pointer (some ⟨b,0,none⟩),jf key] w fun e w'=>∃ p c,e = .returned (.slice p m.settled.length c)/\w'.ownsRow w.heap.size 132 1 (.slice p m.settled.length c) m.settled.length (m.settled.map (fun n=>Yk d n key))/\ja w w' (fun _=>False):=by
 obtain⟨j0,Z,I,G,F⟩:=info_parts Tryz.Rw;have r:=ao w m rv hv (by omega);have J:=xw m;have d0:=zA (o:=0) x;have d1:=zA (o:=1) x;have d2:=zA (o:=2) x;have d3:=zA (o:=3) x;have d4:=zA (o:=4) x;have d5:=zA (o:=5) x;simp at d0 d1 d2 d3 d4 d5;have HB:=jb x;generalize m.settled=l at r J Y ⊢;have A:=jb r;clear x r;go_enter func124,ntmps124;go_wp2_with fail;refine A.out.mono ?_;rintro e C ⟨p1,c1,rfl,f,D⟩;have hN:=Jz f rfl;go_wp2_with fail
 go_loopw [5,14] (fun b i wr=>∃(k:Nat) (p:Option Addr) (c:Nat),k<=l.length/\i = .int .i64 k/\b = .slice p k c /\
  wr.ownsRow C.heap.size 132 1 (.slice p k c) k ((l.take k).map (fun n=>Yk d n key))/\ja C wr (fun _=>False))
  (fun _ i _=>l.length-(intOf i).toNat)
 case atStart=>exact⟨0,none,0,zX _,rfl,rfl,zY _ _ _ _,ja.refl _ _⟩
 case round =>
  obtain⟨k,p,c,hk,rfl,rfl,q,v⟩:=hrel;rcases ZM k l.length with y|ah
  ·obtain⟨g,o,rfl,e0⟩:=(hN.same v).at y
   have L:=Y l[k] (xL y);have V:=D.tt v;have HR:=H.same V;have S:=zA (o:=0) (V.same HB.out id);simp at S;go_wp2_with fail;refine(Sb d l[k] key L HR).mono ?_;rintro e w2 ⟨rfl,X⟩;have W:=v.tt X;have f:=X.row q (fun _ _ h=>h);have z:=f.alloc (.cells #[Yk d l[k] key] 132);have O:Hid (k+1<=maxLen):=by unfold Hid maxLen;omega
   have N:Hid ((k+1)*8<=140737488355328):=by unfold Hid;omega
   have s:(l.take (k+1)).map (fun n=>Yk d n key)=(l.take k).map (fun n=>Yk d n key)++[Yk d l[k] key]:=by
    rw[XF y,xZ];rfl
   have HS:=jb s;clear s q
   go_wp2_with (first|(at_builtin;go_must (refine jx _ rfl (.tmp 18) (.tmp 26) 134 rfl C.heap.size 132 j0 .nilFunc 1 8 underlying134 Z I G F rfl ZX _ _ _ rfl z ⟨w2.heap.size,0,none⟩ 1 1 [Yk d l[k] key] rfl rfl (cell_one_new _ _ _) (je2 _ _ _) O.out N.out (W.more _).size ?_);intro p3 T w3 u M U)|go_in)
   have k3:ja C w3 (fun _=>False):=(W.more _).grow M (fun j e Z=>by have:=(f.lt j e).1;omega);rw[<-HS.out] at u;exact⟨⟨k+1,p3,T,by omega,by simp,rfl,u,k3⟩,by simp[intOf];omega⟩
  ·have ek:k=l.length:=by omega
   subst ek;rw[ZE] at q;go_wp2;go_ret;exact⟨p,c,rfl,q7 q D.size,D.tt v⟩
theorem jew{P:Program}{base:Nat}{c:TypeId}(b:P.underlying c=some (.slice e))(h:w.ownsRow base e 1 v n xs)(i:∀ u∈xs,u.oneCell'=true):Src P 1 c v n xs w:=by
 rcases h.2 with⟨rfl,d⟩|⟨g,cap,k,rfl,_⟩
 ·have f:xs=[]:=ZK (by rw[h.1,d])
  subst f;subst d;exact Src.ofNil w b 0
 ·exact Src.ofSlice w b ⟨g,0,none⟩ n cap _ h.1 (fun j u hu=>h.cells rfl j u hu) i
abbrev Bq(v:Value):Value:= .func (.func 158) #[v] #[]
def Vt(d:Nat)(m:Rf.Man)(l:List Rf.Ch)(mv:Value)(key:Str)(w:World)(e:Ending)(w':World):Prop :=
 ∃ p c v,e = .returned (.slice p (m.settled.length+1) c)/\w'.ownsRow w.heap.size 132 1 (.slice p (m.settled.length+1) c) (m.settled.length+1) (Bq v::m.settled.map (fun n=>Yk d n key))/\Chs w' v (l.drop (Rf.below l key)) /\
  (∀ ad n c,v = .slice (some ad) n c->∃ ad' n' c',mv = .slice (some ad') n' c'/\ad'.block=ad.block)/\ja w w' (fun _=>False)
theorem ni(d:Nat)(m:Rf.Man)(rv last o:Value)(l:List Rf.Ch)(r Y:Bool)(key:Str)(H:Env E B w)(D:w.heap[b]?=some (.cells (qu (.pointer (some ⟨d,0,none⟩)) (jg m.next) (jg m.last) (jg m.log) (jg m.base) rv last o r Y) t (0,0)))(hv:Jw w rv m.runs)(hl:m.runs.length<524288)(hs:∀ n∈m.settled,n<=9223372036854775807)(L:Chs w o l)(hr:Rf.jw l)(J:l.length<1048576) :
 Calls prog 72 #[.pointer (some ⟨b,0,none⟩),jf key] w (Vt d m l o key w):=by
 obtain⟨j0,C,I,G,F⟩:=info_parts Tryz.Rw;have a9:=xw m;have X:=Sa b 7 _ t o l key w D rfl L hr J;have HB:=jb D;have HM:=jb X;clear D X;go_enter func72,ntmps72;go_wp2_with fail;refine HM.out.mono ?_;rintro e k ⟨v,rfl,M,W,q⟩;have z:ja w (k.alloc (.cells #[Bq v] 132)) (fun _=>False):=W.more _;have i:=Zr d m rv last o r Y key (H.same z) (z.same HB.out id) (hv.same z) hl hs;have x:=World.ownsRow_lit (base:=w.heap.size) (e:=132) (size:=1) k #[Bq v] 1 W.size (by unfold maxLen;omega) rfl;have y:=jb i;have S:=jb q;clear i q;go_wp2_with fail;refine y.out.mono ?_;rintro e Z ⟨p2,c2,rfl,c,A⟩;have V:=z.tt A;have f:=A.row x (fun _ _ h=>h)
 have s:=jew (P:=prog) underlying134 c (fun u hu=>by
  obtain⟨n,_,rfl⟩:=zO.1 hu
  rfl)
 have O:Hid (1+m.settled.length<=maxLen):=by unfold Hid maxLen;omega
 have N:Hid ((1+m.settled.length)*8<=140737488355328):=by unfold Hid;omega
 have HO:=jb c;clear c
 go_wp2_with (at_builtin;go_must (refine Xl Z rfl (.tmp 10) (.tmp 13) 134 134 rfl w.heap.size 132 j0 .nilFunc 1 8 underlying134 C I G F rfl ZX _ 1 _ rfl f _ m.settled.length _ rfl s O.out N.out V.size ?_);intro p3 R U g p T)
 have k3:ja w U (fun _=>False):=V.grow p (fun j e C=>by have:=(f.lt j e).1;omega);have k4:ja k U (fun _=>False):=((ja.alloc k _ (fun _=>False)).tt A).grow p (fun j e C=>by injection e with e;have e':k.heap.size=j:=e;omega);go_ret;rw[show 1+m.settled.length=m.settled.length+1 by omega] at g ⊢;exact⟨p3,R,v,rfl,g,M.same k4,S.out,k3⟩
abbrev plV(p:Nat×Nat×Str):Value:= .agg #[j7 p.1,j7 p.2.1,jf p.2.2]
def zb(l:List (Nat×Nat×Str)):List Value:=l.flatMap fun p=>[j7 p.1,j7 p.2.1,jf p.2.2]
theorem M6(l:List (Nat×Nat×Str))(c:Nat×Nat×Str):zb (l++[c])=zb l++zb [c]:=by simp[zb]
theorem jge(l:List (Nat×Nat×Str)):∀ u∈zb l,u.oneCell'=true:=by
 intro u b;obtain⟨c,_,h⟩:=List.mem_flatMap.1 b;simp at h;rcases h with rfl|rfl|rfl<;>rfl
theorem Yl(h:k<l.length):(zb l)[k*3]?=some (j7 l[k].1)/\(zb l)[k*3+1]?=some (j7 l[k].2.1)/\(zb l)[k*3+2]?=some (jf l[k].2.2):=by
 induction l generalizing k with
 | nil=>simp at h
 | cons c r ih =>
  have e:zb (c::r)=j7 c.1::j7 c.2.1::jf c.2.2::zb r:=by simp[zb]
  cases k with
  | zero=>rw[e];simp
  | succ k =>
   have:=ih (by simpa using h);rw[e,show(k+1)*3=k*3+1+1+1 by omega,show k*3+1+1+1+1=(k*3+1)+1+1+1 by omega,show k*3+1+1+1+2=(k*3+2)+1+1+1 by omega];simp only[XO,List.getElem_cons_succ];exact this
theorem je6{c:Nat×Nat×Str}(h:w.heap[b]?=some (.cells #[j7 c.1,j7 c.2.1,jf c.2.2] 346 (0,0))):(loadVar 346 ⟨b,0,none⟩).run prog w = .ok (plV c) w:=by
 have g:=zA (o:=0) h;have f:=zA (o:=1) h;have d:=zA (o:=2) h;simp at g f d;go_simp
theorem Tw{fn:Func}{t:Tmp}(h:fn.results=#[.cell t 346,.tmp u]){c:Nat×Nat×Str}(f:tmps.getD t undef = .pointer (some ⟨b,0,none⟩))(i:w.heap[b]?=some (.cells #[j7 c.1,j7 c.2.1,jf c.2.2] 346 (0,0))) :
 (results fn tmps).run prog w = .ok (.tuple #[plV c,tmps.getD u undef]) w:=by
 have g:=je6 i;have d:tmps[t]?.getD undef = .pointer (some ⟨b,0,none⟩):=by simpa using f
 simp[results,h,d,asAddr,g]
theorem jcv{k:Str}(h:w.heap[b]?=some (.cells #[j7 x,j7 y,jf k] 346 (0,0))) :
 w.cell? ⟨b,0,none⟩=some (j7 x)/\w.cell? ⟨b,1,none⟩=some (j7 y)/\w.cell? ⟨b,2,none⟩=some (jf k)/\w.frozen? ⟨b,0,none⟩=false/\w.frozen? ⟨b,1,none⟩=false/\w.frozen? ⟨b,2,none⟩=false:=by
 have f:=zA (o:=0) h;have d:=zA (o:=1) h;have c:=zA (o:=2) h;simp at f d c;exact⟨f,d,c,zB h,zB h,zB h⟩
theorem jgd{x' y':Nat}{k k':Str}(h:w.heap[b]?=some (.cells #[j7 x,j7 y,jf k] 346 (0,0))) :
 (((w.setCell ⟨b,0,none⟩ (j7 x')).setCell ⟨b,1,none⟩ (j7 y')).setCell ⟨b,2,none⟩ (jf k')).heap[b]?=some (.cells #[j7 x',j7 y',jf k'] 346 (0,0)):=by
 have f:=jd (o:=0) h (j7 x');have d:=jd (o:=1) f (j7 y');have c:=jd (o:=2) d (jf k');simpa using c
theorem jg6{k:Str}{c:Nat×Nat}(h:w.heap[b]?=some (.cells #[j7 x,j7 y,jf k] t c)):∀ j u,w.cell? ⟨b,j,none⟩≠some (j5 u):=by
 intro j x;rw[zA h]
 match j with
 | 0=>simp
 | 1=>simp
 | 2=>simp
 | j+3=>rw[XJ (by simp)];simp
theorem Mz{l:List UInt8}{p:Nat×Str}(M:Rd w r l)(g:Rf.df F l=some (p,q))(U:F<1099511627776) :
 Calls prog 274 #[.pointer (some ⟨r,0,none⟩),j7 F] w fun e w'=>e = .returned (.tuple #[plV (p.1,F,p.2),.nilIface])/\Rd w' r q/\ja w w' (fun i=>i=r):=by
 have T:r<w.heap.size:=by obtain⟨v,S,_⟩:=M;exact zC S
 unfold Rf.df at g
 split at g
 ·rename_i hc
  obtain⟨R,B⟩:=hc
  split at g
  ·rename_i t q' htt
   cases g;have I:=ja.alloc w (.cells #[j7 0,j7 0,jf []] 346) (fun _=>False);have m:=je w (.cells #[j7 0,j7 0,jf []] 346);obtain⟨N,u⟩:∃ N,N=Rf.number (l.take 4):=⟨_,rfl⟩;have E:=jb m;rw[<-u] at B ⊢;clear m;go_enter func274,ntmps274;go_wp2_with fail;refine(yo (n:=4) (M.same I) R (by omega)).mono ?_;rintro e O ⟨rfl,A,L⟩;rw[<-u];have HN:=jb u;clear u;have f:=L.same E.out (by omega);have D:ja w O (fun i=>i=r):=(Qh I).tt L;have s:=jb f;clear f;go_wp2_with fail;refine(fw A htt).mono ?_;rintro e H ⟨rfl,z,J⟩;have b:=J.same s.out (by omega);have C:ja w H (fun i=>i=r):=D.tt J;obtain⟨a0,a1,Z,X,W,V⟩:=jcv (x:=0) (y:=0) b;have j:=jg6 (x:=0) (y:=0) b;have k:=z.other (Za H w.heap.size (j7 N) (j7 F) (jf t)) (show r≠w.heap.size by omega) j;have d:=jgd (x:=0) (y:=0) (x':=N) (y':=F) (k':=t) b;have o:=jb d;have G:=jb k;clear d k b j;go_wp2;refine bodyPost_ret (Tw rfl rfl (c:=(N,F,t)) o.out) rfl ?_;exact⟨rfl,G.out,C.trans (Za _ _ _ _ _) (fun i hi e=>by have Y:i=w.heap.size:=e;omega)⟩
  ·cases g
 ·cases g
def Ym(F:Nat)(ps:List (Nat×Str))(k:Nat):List (Nat×Nat×Str):=ps.mapIdx fun j p=>(p.1,(if j<k then Rf.Xo F ps j else F),p.2)
theorem zl(F:Nat)(ps:List (Nat×Str))(k:Nat):(Ym F ps k).length=ps.length:=by simp[Ym]
theorem Qo(h:j<ps.length):(Ym F ps k)[j]'(by rw[zl];exact h)=(ps[j].1,(if j<k then Rf.Xo F ps j else F),ps[j].2):=by simp[Ym]
theorem jap(F:Nat)(ps:List (Nat×Str)):Ym F ps 0=ps.map (fun p=>(p.1,F,p.2)):=by
 apply List.ext_getElem
 ·simp[Ym]
 ·intro i c b
  simp[Ym]
theorem Pu{ps:List (Nat×Nat×Str)}(h:k<ps.length)(x:Nat):zb (ps.set k (ps[k].1,x,ps[k].2.2))=(zb ps).set (k*3+1) (j7 x):=by
 induction ps generalizing k with
 | nil=>simp at h
 | cons p r ih =>
  have e:∀(x:Nat×Nat×Str) (l:List (Nat×Nat×Str)),zb (x::l)=j7 x.1::j7 x.2.1::jf x.2.2::zb l:=fun x l=>by simp[zb]
  cases k with
  | zero=>simp[e]
  | succ k =>
   have:=ih (by simpa using h:k<r.length);simp only[List.getElem_cons_succ,List.set_cons_succ];rw[e,this,e,show(k+1)*3+1=(k*3+1)+1+1+1 by omega];simp[List.set_cons_succ]
theorem jaq(h:k<ps.length):Ym F ps (k+1)=(Ym F ps k).set k (ps[k].1,Rf.Xo F ps k,ps[k].2):=by
 apply List.ext_getElem
 ·simp[Ym]
 ·intro i b c
  rw[zl] at b;rw[Qo b,List.getElem_set];by_cases e:k=i
  ·subst e
   rw[if_pos rfl,if_pos (by omega)]
  ·rw[if_neg e,Qo b]
   by_cases hi:i<k
   ·rw[if_pos hi,if_pos (by omega)]
   ·rw[if_neg hi,if_neg (by omega)]
theorem M5(h:k<ps.length):zb (Ym F ps (k+1))=(zb (Ym F ps k)).set (k*3+1) (j7 (Rf.Xo F ps k)):=by
 rw[jaq h];have b:k<(Ym F ps k).length:=by rw[zl];exact h
 have:=Pu b (Rf.Xo F ps k);rw[Qo h] at this;exact this
theorem ja8(h:Rf.rh ps=true)(b:k+1<ps.length):ps[k].1<=ps[k+1].1:=by
 unfold Rf.rh at h;rw[xW] at h;have:=of_decide_eq_true h.2;exact XY.1 this k (k+1) (by omega) b (by omega)
theorem Rq(h:Rf.rh ps=true):∃ x r,ps=(0,x)::r:=by
 unfold Rf.rh at h;rw[xW] at h;have b:=of_decide_eq_true h.1
 cases ps with
 | nil=>cases b
 | cons p r =>
  obtain⟨a,x⟩:=p;simp at b;exact⟨x,r,by rw[b]⟩
theorem je9{base:Nat}(u:ps.length=n)(v:Rf.rh ps=true)(b:w.ownsRow base 346 3 (.slice (some ⟨g,0,none⟩) n cap) n (zb (Ym F ps 0)))(U:n<1048576) :
 Calls prog 275 #[.slice (some ⟨g,0,none⟩) n cap] w fun e w'=>e = .returned .nilIface/\w'.ownsRow base 346 3 (.slice (some ⟨g,0,none⟩) n cap) n (zb (Ym F ps n))/\ja w w' (fun i=>i=g):=by
 obtain⟨S,T,s⟩:=Rq v;have N:1<=n:=by rw[<-u,s];simp
 have c0:w.cell? ⟨g,0,none⟩=some (j7 0):=by
  rw[b.cellAt 0 (by omega)];have:=(Yl (l:=Ym F ps 0) (k:=0) (by rw[zl];omega)).1;rw[Qo (by omega)] at this;simp only[s] at this;simpa [s] using this
 have d:Ym F ps (n-1)=Ym F ps n:=by
  apply List.ext_getElem
  ·simp[Ym]
  ·intro i x W
   rw[zl] at x;rw[Qo x,Qo x];by_cases hi:i<n-1
   ·rw[if_pos hi,if_pos (by omega)]
   ·rw[if_neg hi,if_pos (by omega)]
    have:Rf.Xo F ps i=F:=by
     unfold Rf.Xo;rw[xG (by omega)];rfl
    rw[this]
 have r:=jb b;have J:=jb d;have L:=jb v;have I:=jb u;clear b d v s u;have M:(1:Int)<=(n:Int):=by omega
 go_enter func275,ntmps275;go_wp2
 go_loopw [15] (fun i wr=>∃(k:Nat),k<=n-1/\i = .int .i64 k/\wr.ownsRow base 346 3 (.slice (some ⟨g,0,none⟩) n cap) n (zb (Ym F ps k))/\ja w wr (fun i=>i=g))
  (fun i _=>n-1-(intOf i).toNat)
 case atStart=>exact⟨0,zX _,rfl,r.out,ja.refl _ _⟩
 case round =>
  obtain⟨k,V,rfl,b,o⟩:=hrel;rcases ZM k (n-1)with O|R
  ·have A:(k:Int)<(n:Int)-1:=by omega
   have q:k+1<ps.length:=by rw[I.out];omega
   have H:wr.cell? ⟨g,k*3,none⟩=some (j7 ps[k].1):=by
    rw[b.cellAt _ (by omega),(Yl (l:=Ym F ps k) (k:=k) (by rw[zl];omega)).1,Qo (by omega)]
   have G:wr.cell? ⟨g,(k+1)*3,none⟩=some (j7 ps[k+1].1):=by
    rw[b.cellAt _ (by omega),(Yl (l:=Ym F ps k) (k:=k+1) (by rw[zl];omega)).1,Qo (by omega)]
   have E:=b.cellAt (k*3+1) (by omega);rw[(Yl (l:=Ym F ps k) (k:=k) (by rw[zl];omega)).2.1] at E;have Z:=b.frozenAt (k*3+1);have m:=ja8 L.out q
   have f:Rf.Xo F ps k=ps[k+1].1:=by
    unfold Rf.Xo;rw[xK q];rfl
   have c:=td b (j:=k*3+1) (by omega) (j7 ps[k+1].1);rw[<-f,<-M5 (by omega),f] at c;have t:=o.set (p:=⟨g,k*3+1,none⟩) rfl (j7 ps[k+1].1);generalize ps[k+1].1=X at G m c t f;generalize ps[k].1=Y at H m;have B:¬((X:Int)<(Y:Int)):=by omega
   have y:=jb c;have z:=jb t;clear b c t;go_wp2;exact⟨⟨k+1,by omega,by simp,y.out,z.out⟩,by simp[intOf];omega⟩
  ·have D:k=n-1:=by omega
   subst D;rw[J.out] at b;have C:¬(((n-1:Nat):Int)<(n:Int)-1):=by omega
   go_wp2;go_ret;exact⟨rfl,b,o⟩
theorem Rf.nh{l:List UInt8}(h:Rf.Qf F (n+1) l=some (ps,q)):∃ p r ps',Rf.df F l=some (p,r)/\Rf.Qf F n r=some (ps',q)/\ps=p::ps':=by
 unfold Rf.Qf at h
 split at h
 ·cases h
 ·rename_i p r e
  split at h
  ·cases h
  ·rename_i ps' q' e'
   cases h;exact⟨p,r,ps',e,e',rfl⟩
theorem Rf.Fg{l:List UInt8}(h:Rf.Qf F n l=some (ps,q)):ps.length=n:=by
 induction n generalizing l ps with
 | zero=>cases h;rfl
 | succ n ih =>
  obtain⟨p,r,c,_,b,rfl⟩:=Rf.nh h;simp[ih b]
def plZ:Value:= .agg #[.int .i64 0,.int .i64 0,.string ⟨#[]⟩]
theorem Tryz.jgm:(prog.info? 346).map (fun i=>(i.zero,i.size,i.bytes))=some (some plZ,3,32):=by kernel_rfl
theorem Pv(w:World)(x y:Nat)(k:Str)(t:TypeId):∀ j u,(zb [(x,y,k)])[j]?=some u->(w.alloc (.cells #[j7 x,j7 y,jf k] t)).cell? ((⟨w.heap.size,0,none⟩:Addr).add j)=some u:=by
 intro j u b;exact J7 (je w (.cells #[j7 x,j7 y,jf k] t)) rfl j u (by simpa [zb] using b)
theorem Rd.rowAt{base:Nat}{size:Nat}(h:Rd w r q)(d:ja w w' (fun i=>some i=v.ownBlock))(l:w.ownsRow base e size v n xs)(y:r<base):Rd w' r q:=by
 obtain⟨u,m,g,f⟩:=h;have b:∀ i,i<=r->¬some i=v.ownBlock:=fun i hi e=>by have:=(l.lt i e.symm).1;omega
 refine⟨u,d.same m (b r (ZQ _)),?_,f⟩;rcases Classical.em (q=[])with rfl|k
 ·obtain⟨p,c,rfl,x,t,s,o⟩:=g
  exact⟨p,c,rfl,x,t,s,fun ad e=>⟨(o ad e).1,fun j u hu=>by cases hu⟩⟩
 ·exact g.keep d (fun p n c e=>b _ (Nat.le_of_lt (f k p n c e).1))
theorem Kr{l:List UInt8}(hr:Rd w r l)(h:Rf.dy F l=some ps)(hF:F<1099511627776) :
 Calls prog 263 #[.pointer (some ⟨r,0,none⟩),j7 F] w fun e w'=>∃ g cap,e = .returned (.tuple #[.slice (some ⟨g,0,none⟩) ps.length cap,.nilIface]) /\
  w'.ownsRow w.heap.size 346 3 (.slice (some ⟨g,0,none⟩) ps.length cap) ps.length (zb (Ym F ps ps.length))/\ja w w' (fun i=>i=r):=by
 have Y:r<w.heap.size:=by obtain⟨v,U,_⟩:=hr;exact zC U
 obtain⟨j0,hj,X,W,V⟩:=info_parts Tryz.jgm;unfold Rf.dy at h
 split at h
 ·rename_i hc
  obtain⟨h2,a3⟩:=hc
  split at h
  ·rename_i ps' htp
   split at h
   ·rename_i hjoin
    cases h;have o:=Rf.Fg htp
    have a8:Rf.number (l.take 2)<65536:=by
     have:=Rf.Zv (l.take 2);rw[ZN,xC h2] at this;exact this
    obtain⟨N,R⟩:∃ N,N=Rf.number (l.take 2):=⟨_,rfl⟩;rw[<-R] at a8 o htp a3;rw[o];have HJ:=jb hjoin;have ac:=jb htp;have O:=jb o;clear hjoin htp o;have ap:((N:Int)==0)=false:=by simp;omega
    have ao:¬((N:Int)=0):=by omega
    go_enter func263,ntmps263;go_wp2_with fail;refine(yo (n:=2) hr h2 (by omega)).mono ?_;rintro e w1 ⟨rfl,a1,k1⟩;rw[<-R];have b3:=jb R;clear R;go_wp2
    go_loopw [8,27] (fun v i wr=>∃(k:Nat) (done u:List (Nat×Str)) (q:List UInt8) (p:Option Addr) (c:Nat),k<=N/\ps=done++u/\done.length=k/\Rf.Qf F (N-k) q=some (u,[])/\i = .int .u64 k/\v = .slice p k c /\
     wr.ownsRow w.heap.size 346 3 (.slice p k c) k (zb (done.map (fun p=>(p.1,F,p.2))))/\Rd wr r q/\ja w wr (fun i=>i=r))
     (fun _ i _=>N-(intOf i).toNat)
    case atStart=>exact⟨0,[],ps,_,none,0,zX _,rfl,rfl,ac.out,rfl,rfl,zY _ _ _ _,a1,k1⟩
    case round =>
     obtain⟨k,done,u,q,p,c,hk,D,a6,d,rfl,rfl,b,A,G⟩:=hrel;have J:=jb D;clear D;rcases ZM k N with E|b1
     ·rw[show N-k=(N-(k+1))+1 by omega] at d
      obtain⟨⟨s,t⟩,q',x,hT,I,rfl⟩:=Rf.nh d;have ad:=jb I;clear d I;go_wp2_with fail;refine(Mz A hT hF).mono ?_;rintro e z ⟨rfl,a0,k2⟩;have m:=k2.row b (fun g T e=>by have:=(b.lt g T).1;omega);have KW:=Xs G k2;clear b A;have B:=(m.alloc (.cells #[j7 s,j7 F,jf t] 346)).alloc (.cells #[j7 s,j7 F,jf t] 346);have L:(z.alloc (.cells #[j7 s,j7 F,jf t] 346)).heap.size=z.heap.size+1:=by simp
      have y:=Pv (z.alloc (.cells #[j7 s,j7 F,jf t] 346)) s F t 346;rw[L] at y;have U:=jge [(s,F,t)];have a9:Hid (k+1<=maxLen):=by unfold Hid maxLen;omega
      have a7:Hid ((k+1)*32<=140737488355328):=by unfold Hid;omega
      have hb:w.heap.size<=((z.alloc (.cells #[j7 s,j7 F,jf t] 346)).alloc (.cells #[j7 s,j7 F,jf t] 346)).heap.size:=by have:=KW.size;simp;omega
      have M:=m.lt
      go_wp2_with (first|(at_builtin;go_must (refine jx _ rfl (.tmp 39) (.tmp 41) 321 rfl w.heap.size 346 j0 plZ 3 32 underlying321 hj X W V rfl (ZD 2) _ _ _ rfl B ⟨z.heap.size+1,0,none⟩ 1 1 (zb [(s,F,t)]) rfl rfl y U a9.out a7.out hb ?_);intro p3 aa S f a5 af)|go_in)
      rw[<-M6] at f;have k3:ja z S (fun i=>some i=(Value.slice p k c).ownBlock):=(((ja.refl z _).more _).more _).grow a5 (fun j e _=>e.symm);have ab:ja w S (fun i=>i=r):=KW.trans k3 (fun i hi e=>by have:=(M i e.symm).1;omega);have Z:Rd S r q':=a0.rowAt k3 m Y;have a4:(done++[(s,t)]).map (fun p=>(p.1,F,p.2))=done.map (fun p=>(p.1,F,p.2))++[(s,F,t)]:=by simp
      rw[<-a4] at f;have a2:ps=(done++[(s,t)])++x:=by rw[J.out];simp
      exact⟨⟨k+1,done++[(s,t)],x,q',p3,aa,by omega,a2,by simp[a6],ad.out,by simp,rfl,f,Z,ab⟩,by simp[intOf];omega⟩
     ·have ek:k=N:=by omega
      subst ek;rw[Nat.sub_self] at d;cases d;have hd:ps=done:=by have:=J.out;simpa using this
      rw[<-hd,<-jap] at b;have b2:0<k:=by omega
      obtain⟨g,T⟩:∃ g,p=some ⟨g,0,none⟩:=by
       rcases b.2 with⟨e,e0⟩|⟨g,_,_,e,_⟩
       ·omega
       ·cases e;exact⟨g,rfl⟩
      subst T;have H:=je9 (base:=w.heap.size) O.out HJ.out b (by omega);have ae:=jb H;have E:=b.lt;clear H b HJ hd;go_wp2_with fail;refine(Vc A).mono ?_;rintro e w' ⟨rfl,rfl⟩;go_wp2_with fail;refine ae.out.mono ?_;rintro e w5 ⟨rfl,C,k5⟩;go_wp2;go_ret2;exact⟨g,c,rfl,C,G.trans k5 (fun i hi e=>by have:=(E g rfl).1;omega)⟩
   ·cases h
  ·cases h
 ·cases h
abbrev Ko(hv pv:Value):Value:= .agg #[hv,pv]
theorem jdg(h:w.heap[b]?=some (.cells #[hv,pv] 323 (0,0))):(loadVar 323 ⟨b,0,none⟩).run prog w = .ok (Ko hv pv) w:=by
 have d:=zA (o:=0) h;have c:=zA (o:=1) h;simp at d c;go_simp
theorem pj{fn:Func}{t:Tmp}(h:fn.results=#[.cell t 323,.tmp u])(d:tmps.getD t undef = .pointer (some ⟨b,0,none⟩))(g:w.heap[b]?=some (.cells #[hv,pv] 323 (0,0))) :
 (results fn tmps).run prog w = .ok (.tuple #[Ko hv pv,tmps.getD u undef]) w:=by
 have f:=jdg g;have c:tmps[t]?.getD undef = .pointer (some ⟨b,0,none⟩):=by simpa using d
 simp[results,h,c,asAddr,f]
theorem run_set{x y x' y':Value}(h:w.heap[b]?=some (.cells #[x,y] 323 (0,0))) :
 ((w.setCell ⟨b,0,none⟩ x').setCell ⟨b,1,none⟩ y').heap[b]?=some (.cells #[x',y'] 323 (0,0)):=by
 have d:=jd (o:=0) h x';have c:=jd (o:=1) d y';simpa using c
theorem Ux(w:World)(b:Nat)(x y:Value):ja w ((w.setCell ⟨b,0,none⟩ x).setCell ⟨b,1,none⟩ y) (fun i=>i=b) :=
 ((ja.refl w (fun i=>i=b)).set (p:=⟨b,0,none⟩) rfl x).set (p:=⟨b,1,none⟩) rfl y
theorem Rf.Kg{l h:List UInt8}(e:Rf.xf l=some (h,q)):8<=l.length:=(Rf.oj e).1
theorem T6{b:List UInt8}(hv:Bytes w v b)(h:Rf.Eu b=some (F,ps))(hl:b.length<1099511627776) :
 Calls prog 254 #[v] w fun e w'=>∃ g cap,e = .returned (.tuple #[Ko v (.slice (some ⟨g,0,none⟩) ps.length cap),.nilIface]) /\
  w'.ownsRow w.heap.size 346 3 (.slice (some ⟨g,0,none⟩) ps.length cap) ps.length (zb (Ym F ps ps.length))/\ja w w' (fun _=>False):=by
 unfold Rf.Eu at h
 split at h
 ·rename_i hc
  obtain⟨h4,z⟩:=hc
  split at h
  ·rename_i hh htf
   split at h
   ·rename_i ps' hps
    have f:F=Rf.number (b.drop (b.length-4)):=by cases h;rfl
    have S:ps'=ps:=by cases h;rfl
    clear h;subst S;obtain⟨M,u⟩:∃ M,b.length=M+4:=⟨b.length-4,by omega⟩;rw[show b.length-4=M by omega] at z htf hps f;rw[<-f] at z htf hps;obtain⟨p,c,rfl,a1,a2,a3,a4⟩:=id hv;unfold maxLen at a2;have hp:p≠none:=fun e=>by have:=a3 e;omega
    have ay:F<4294967296:=by
     have:=Rf.Zv (b.drop M);rw[ZZ,u,show M+4-M=4 by omega,<-f] at this;exact this
    have I:=hv.drop M (by omega);have b2:=(hv.take M (by omega));have k:(b.take M).length=M:=by rw[ZN];omega
    have H:Bytes w (.slice (if c=F then p else p.map (·.add F)) (M-F) (c-F)) ((b.take M).drop F):=by
     have:=Bytes.drop (l:=b.take M) (by rw[k];exact b2) F (by omega);rwa [k] at this
    rw[if_neg (by omega:¬c=M),u,show M+4-M=4 by omega] at I;rw[if_neg (by omega:¬c=F)] at H;have e4:(b.drop M).length=4:=by rw[ZZ];omega
    have et:(b.drop M).take 4=b.drop M:=ZF (by omega);rw[u];rw[u] at a1 hl;clear a3 a4 b2 h4;have E:=ja.alloc w (.cells #[.slice none 0 0,.slice none 0 0] 323) (fun _=>False);have B:=je w (.cells #[.slice none 0 0,.slice none 0 0] 323);have y:=Xf _ _ _ (I.same E);have HV:=jb hv;have V:=jb B;have Y:=jb f;have a0:=jb H;have W:=jb y;have D:=jb hps;have U:=jb htf;have Z:=jb et;have X:=jb k;have az:=jb u;clear hv B f H I y hps htf et k u;have ax:¬c=F:=by omega
    have aw:¬c=M:=by omega
    go_enter func254,ntmps254;go_wp2_with fail;refine W.out.mono ?_;rintro e w1 ⟨r,rfl,au,R,k1⟩;go_wp2_with fail;refine(yo (n:=4) R (by omega) (by omega)).mono ?_;rintro e w2 ⟨rfl,av,k2⟩;rw[Z.out,<-Y.out];have t:ja w w2 (fun _=>False):=Y9 (E.tt k1) (by have:=E.size;omega) k2;have h9:(w.alloc (.cells #[.slice none 0 0,.slice none 0 0] 323)).heap.size=w.heap.size+1:=by simp
    have q:=k2.same (k1.same V.out id) (by omega);clear h9;have x:=lj (a0.out.same t) U.out (by rw[ZZ,X.out];omega);have T:=jb x;have s:=jb q;clear x q;go_wp2_with fail;refine T.out.mono ?_;rintro e w3 ⟨v3,rfl,A,G⟩;obtain⟨p3,c3,rfl,_⟩:=id A;go_wp2_with fail;refine(Xf _ _ _ A).mono ?_;rintro e w4 ⟨r4,rfl,af,O,k4⟩;go_wp2_with fail;refine(Kr O D.out (by omega)).mono ?_;rintro e w5 ⟨g,cap,rfl,m,k5⟩;have L:ja w2 w4 (fun _=>False):=G.tt k4;have J:ja w w4 (fun _=>False):=t.tt L;have K5:ja w w5 (fun _=>False):=Y9 J (by have:=J.size;have:=(t.tt G).size;omega) k5;have ar:=zC s.out;have d:=k5.same (L.same s.out id) (by have:=G.size;omega);have q0:=zA (o:=0) d;have q1:=zA (o:=1) d;have f0:=zB (o:=0) d;have f1:=zB (o:=1) d;simp at q0 q1;have C:=jb d;clear d;go_wp2;refine bodyPost_ret (pj rfl rfl (run_set C.out)) rfl ?_;have k6:=Ux w5 w.heap.size (.slice p (M+4) c) (.slice (some ⟨g,0,none⟩) ps'.length cap);have N:=J.size;refine⟨g,cap,rfl,q7 (k6.row m (fun j hj e=>?_)) N,K5.trans k6 (fun i hi e=>by have e':i=w.heap.size:=e;omega)⟩;have:=(m.lt j hj).1;have:=L.size;have e':j=w.heap.size:=e;omega
   ·cases h
  ·cases h
 ·cases h
def Pls(w:World)(g cap:Nat)(l:List (Nat×Nat×Str)):Prop:=l.length<=cap/\cap<=maxLen/\∀ j u,(zb l)[j]?=some u->w.cell? ⟨g,j,none⟩=some u
theorem Pls.keep(h:Pls w g cap l)(k:ja w w' T)(b:l≠[]->¬T g):Pls w' g cap l :=
 ⟨h.1,h.2.1,fun j u hu=>k.cell (h.2.2 j u hu) (b (fun e=>by rw[e] at hu;cases hu))⟩
theorem Pls.same(h:Pls w g cap l)(k:ja w w' (fun _=>False)):Pls w' g cap l:=h.keep k (fun _=>id)
theorem Ub{base:Nat}(i:l.length=n)(h:w.ownsRow base 346 3 (.slice (some ⟨g,0,none⟩) n cap) n (zb l)):Pls w g cap l:=by
 rcases h.2 with⟨e,_⟩|⟨m,b,f,e,_,d,k,c,_⟩
 ·cases e
 ·cases e
  refine⟨by omega,c,fun j u hu=>?_⟩;have:=h.cells (g:=g) rfl j u hu;rwa [Yr,XD] at this
theorem Pls.at(h:Pls w g cap l)(b:k<l.length):w.cell? ⟨g,k*3,none⟩=some (j7 l[k].1)/\w.cell? ⟨g,k*3+1,none⟩=some (j7 l[k].2.1)/\w.cell? ⟨g,k*3+2,none⟩=some (jf l[k].2.2) :=
 ⟨h.2.2 _ _ (Yl b).1,h.2.2 _ _ (Yl b).2.1,h.2.2 _ _ (Yl b).2.2⟩
theorem X1(c:Nat×Nat×Str)(key:Str)(w:World) :
 Calls prog 256 #[plV c,jf key] w fun e w'=>e = .returned (.int .i64 (Bw c.2.2 key))/\ja w w' (fun _=>False):=by
 obtain⟨x,y,k⟩:=c;go_enter func256,ntmps256
 go_wp2_with (go_at_call 190;refine(Tryz.strings_Compare ⟨k.toArray⟩ ⟨key.toArray⟩ _).mono ?_;rintro e w' ⟨rfl,rfl⟩)
 go_ret;exact⟨by simp[Bw],ja.alloc w _ _⟩
theorem Mw(l:List (Nat×Nat×Str))(A:Nat)(key:Str)(w:World)(G:l.length=n)(hv:Pls w g cap l)(hA:A<=l.length)(v:∀ j,∀ h:j<l.length,j<A->l[j].2.2<key)(J:∀ j,∀ h:j<l.length,A<=j->¬l[j].2.2<key)(hl:l.length<1099511627776) :
 Calls prog 255 #[.slice (some ⟨g,0,none⟩) n cap,jf key,.func (.func 256) #[] #[]] w fun e w' =>
  e = .returned (.tuple #[j7 A,.bool (decide ((l[A]?).map (fun p=>p.2.2)=some key))])/\ja w w' (fun _=>False):=by
 subst G;have r:=jb v;have C:=jb J;clear v J;go_enter func255,ntmps255;go_wp2_with fail
 go_loopw [9,10] (fun a b wr=>∃(lo c:Nat),a = .int .i64 lo/\b = .int .i64 c/\lo<=c/\c<=l.length/\(∀ j,∀ h:j<l.length,j<lo->l[j].2.2<key)/\(∀ j,∀ h:j<l.length,c<=j->¬l[j].2.2<key)/\ja w wr (fun _=>False))
  (fun a b _=>(intOf b-intOf a).toNat)
 case atStart=>exact⟨0,l.length,rfl,rfl,zX _,ZQ _,(fun j h Z=>by omega),(fun j h Z=>by omega),ja.refl _ _⟩
 case round =>
  obtain⟨lo,c,rfl,rfl,F,Z,L,N,f⟩:=hrel;have u:=jb L;have D:=jb N;clear L N;rcases ZM lo c with B|a9
  ·have S:(lo+c)/2<l.length:=by omega
   have y:=hv.same f;obtain⟨e0,e1,e2⟩:=y.at S;have V:((lo:Int)+(c:Int))/2=(((lo+c)/2:Nat):Int):=by omega
   have a6:((lo:Int)+(c:Int))%18446744073709551616=(lo:Int)+(c:Int):=by omega
   generalize hM:(lo+c)/2=m at S e0 e1 e2 V;have a8:lo<=m:=by omega
   have a7:m<c:=by omega
   have i:¬l[m].2.2<key->∀ j,∀ h:j<l.length,m<=j->¬l[j].2.2<key:=by
    intro G j h hj d;refine C.out j h ?_ d;rcases ZM m A with F|F
    ·exact(G (r.out m S F)).elim
    ·omega
   have s:l[m].2.2<key->∀ j,∀ h:j<l.length,j<m+1->l[j].2.2<key:=by
    intro G j h hj;refine r.out j h ?_;rcases ZM m A with F|F
    ·omega
    ·exact(C.out m S F G).elim
   have q:=jb i;have t:=jb s;clear i s;rcases fh l[m].2.2 key with⟨d,k⟩|⟨d,k⟩|⟨d,k⟩
   ·have M:=t.out d
    have X:=jb M;clear M d t q
    go_wp2_with (go_at_call 256;refine(X1 l[m] key wr).mono ?_;rintro e T ⟨rfl,x⟩;rw[k])
    exact⟨⟨m+1,c,by simp,by simp,by omega,by omega,X.out,D.out,f.tt x⟩,by simp[intOf];omega⟩
   ·have o:=q.out (by rw[d];exact XM _)
    have E:=jb o;clear o d t q
    go_wp2_with (go_at_call 256;refine(X1 l[m] key wr).mono ?_;rintro e T ⟨rfl,x⟩;rw[k])
    exact⟨⟨lo,m,by simp,by simp,by omega,by omega,u.out,E.out,f.tt x⟩,by simp[intOf];omega⟩
   ·have o:=q.out (List.lt_asymm d)
    have E:=jb o;clear o d t q
    go_wp2_with (go_at_call 256;refine(X1 l[m] key wr).mono ?_;rintro e T ⟨rfl,x⟩;rw[k])
    exact⟨⟨lo,m,by simp,by simp,by omega,by omega,u.out,E.out,f.tt x⟩,by simp[intOf];omega⟩
  ·have eh:c=lo:=by omega
   subst eh
   have Y:A=c:=by
    rcases Nat.lt_trichotomy A c with H|H|H
    ·exact(C.out A (by omega) (ZQ _) (u.out A (by omega) H)).elim
    ·exact H
    ·exact(D.out c (by omega) (ZQ _) (r.out c (by omega) H)).elim
   have O:=jb Y;clear u D Y;rcases ZM c l.length with B|R
   ·have y:=hv.same f
    obtain⟨e0,e1,e2⟩:=y.at B;have I:(l[c]?).map (fun p=>p.2.2)=some l[c].2.2:=by rw[xK B];rfl
    have U:=jb I;clear I;rcases fh l[c].2.2 key with⟨d,k⟩|⟨d,k⟩|⟨d,k⟩
    all_goals
     have z:decide (some l[c].2.2=some key)=(Bw l[c].2.2 key==0):=by
      rw[k]
      first
       | (have h3:¬l[c].2.2=key:=fun e=>by rw[e] at d;exact XM _ d
          simp[h3])
       | simp[d]
     rw[k] at z;have W:=jb z;clear z d
     go_wp2_with (go_at_call 256;refine(X1 l[c] key wr).mono ?_;rintro e T ⟨rfl,x⟩;rw[k])
     go_ret2;refine⟨?_,f.tt x⟩;rw[O.out,U.out,W.out];rfl
   ·have I:l[c]?=none:=xG R
    have U:=jb I;clear I;go_wp2;go_ret2;refine⟨?_,f⟩;rw[O.out,U.out];rfl
theorem jcw{A:Nat}:((Ym F ps n)[A]?).map (fun p=>p.2.2)=(ps[A]?).map Prod.snd:=by
 rcases ZM A ps.length with h|h
 ·rw[xK (by rw[zl];exact h),xK h,Qo h]
  rfl
 ·rw[xG (by rw[zl];exact h),xG h]
  rfl
theorem jch(key:Str)(t:ps.length=n)(h:Pls w g cap (Ym F ps n))(s:Rf.jee ps key)(v:n<1099511627776) :
 Calls prog 236 #[Ko (.slice p m c) (.slice (some ⟨g,0,none⟩) n cap),jf key] w fun e w'=>e = .returned (j7 (Rf.gz ps key))/\ja w w' (fun _=>False):=by
 have k:=ja.alloc w (.cells #[.slice p m c,.slice (some ⟨g,0,none⟩) n cap] 323) (fun _=>False);have b:=zl F ps n
 have f:=Mw (g:=g) (cap:=cap) (n:=n) (Ym F ps n) (Rf.ahead ps key) key _ (by rw[b,t]) (h.same k) (by rw[b];exact Rf.A9 ps key) (fun j hj hA=>by
  rw[b] at hj
  rw[Qo hj]
  show ps[j].2<key
  exact Rf.Sx hA (xK hj)) (fun j hj hA=>by
  rw[b] at hj
  rw[Qo hj]
  show ¬ps[j].2<key
  exact s j _ hA (xK hj)) (by rw[b];omega)
 rw[jcw] at f;have l:=Rf.A9 ps key;obtain⟨R,d⟩:∃ R,R=Rf.gz ps key:=⟨_,rfl⟩;rw[<-d];unfold Rf.gz at d;generalize Rf.ahead ps key=A at f d l;by_cases hf:(ps[A]?).map Prod.snd=some key
 ·rw[if_pos hf] at d
  rw[decide_eq_true hf] at f;subst d;have HS:=jb f;clear f hf;go_enter func236,ntmps236;go_wp2_with fail;refine HS.out.mono ?_;rintro e q ⟨rfl,i⟩;go_wp2;go_ret;exact⟨rfl,k.tt i⟩
 ·rw[if_neg hf] at d
  rw[decide_eq_false hf] at f;have HS:=jb f;clear f hf;rcases XW A with r|r
  ·subst r
   subst d;go_enter func236,ntmps236;go_wp2_with fail;refine HS.out.mono ?_;rintro e q ⟨rfl,i⟩;go_wp2;go_ret;exact⟨rfl,k.tt i⟩
  ·have o:(A:Int)-1=(R:Int):=by omega
   have u:(0:Int)<(A:Int):=by omega
   have x:=jb d;clear d;go_enter func236,ntmps236;go_wp2_with fail;refine HS.out.mono ?_;rintro e q ⟨rfl,i⟩;go_wp2;go_ret;exact⟨by first|rfl|simp[o],k.tt i⟩
theorem jbl :
 Calls prog 237 #[Ko (.slice p m c) (.slice (some ⟨g,0,none⟩) n cap)] w fun e w'=>e = .returned (j7 n)/\ja w w' (fun _=>False):=by
 go_enter func237,ntmps237;go_wp2;go_ret;exact⟨rfl,ja.alloc w _ _⟩
theorem jfe{ev:Value}(hn:ps.length=n)(hi:i<n)(h:Pls w g cap (Ym F ps n))(C:Chs w ev es)(L:1<=es.length)(a8:es.length<=4)(l:Rf.fits ps i es=true)(hl:n<1048576) :
 Calls prog 258 #[Ko (.slice p m c) (.slice (some ⟨g,0,none⟩) n cap),j7 i,ev] w fun e w'=>e = .returned (.bool true)/\ja w w' (fun _=>False):=by
 have E:=ja.alloc w (.cells #[.slice p m c,.slice (some ⟨g,0,none⟩) n cap] 323) (fun _=>False);have z:=je w (.cells #[.slice p m c,.slice (some ⟨g,0,none⟩) n cap] 323);have t1:(w.alloc (.cells #[.slice p m c,.slice (some ⟨g,0,none⟩) n cap] 323)).cell? ⟨w.heap.size,1,none⟩=some (.slice (some ⟨g,0,none⟩) n cap):=(zA (o:=1) z).trans rfl;unfold Rf.fits at l;rw[xW,xW] at l;obtain⟨⟨U,T⟩,G⟩:=l;have U:=of_decide_eq_true U;have T:=of_decide_eq_true T;obtain⟨pe,ce,rfl,_⟩:=id C;have y:=zl F ps n;have Z:=h.same E;have q:=C.same E;obtain⟨be,oe,rfl,e0,_,_⟩:=q.at (k:=0) (by omega);have a0:=(Z.at (k:=i) (by rw[y];omega)).2.2;rw[Qo (by omega)] at a0
 have H:es[0].key=ps[i].2:=by
  have Y:Rf.Jn es=es[0].key:=by
   cases es with
   | nil=>simp at L
   | cons x r=>rfl
  have X:Rf.keyOf ps i=ps[i].2:=by unfold Rf.keyOf;rw[xK (by omega)];rfl
  rw[<-Y,U,X]
 simp only at a0;rw[<-H] at a0
 have s:i+1=n\/(i+1<n/\es.length=4/\∃(h3:3<es.length) (a6:i+1<ps.length),es[3].key<ps[i+1].2):=by
  rw[Bool.or_eq_true,xW] at G;rcases G with G|⟨f4,f5⟩
  ·have:=of_decide_eq_true G;omega
  ·have f4:=of_decide_eq_true f4
   have f5:=of_decide_eq_true f5;rcases ZM (i+1) n with h6|h6
   ·refine .inr ⟨h6,f4,by omega,by omega,?_⟩
    have Y:Rf.Ar es=es[3].key:=by
     have e3:es.length-1=3:=by omega
     unfold Rf.Ar;rw[List.getLast?_eq_getElem?,e3,xK (by omega)];rfl
    have X:Rf.keyOf ps (i+1)=ps[i+1].2:=by unfold Rf.keyOf;rw[xK (by omega)];rfl
    rw[<-Y,<-X];exact f5
   ·exact .inl (by omega)
 have O:=jb s;have HH:=jb Z;have v:=jb q;have aa:=jb T;clear s h Z C q U T G H z;have D:(0:Int)<(es.length:Int):=by omega
 have a6:(i:Int)<(n:Int):=by omega
 simp at e0;obtain⟨t,A⟩:∃ t,t=es.length:=⟨_,rfl⟩;rw[<-A] at D L a8 ⊢;have u:=jb A;clear A;go_enter func258,ntmps258;go_wp2_with fail;go_quiet (fail);go_wp2
 go_loopw [7] (fun k wr=>∃(j:Nat),j+1<=t/\k = .int .i64 ((j:Int)+1)/\ja (w.alloc (.cells #[.slice p m c,.slice (some ⟨g,0,none⟩) n cap] 323)) wr (fun _=>False))
  (fun k _=>t-(intOf k).toNat)
 case atStart=>exact⟨0,by omega,rfl,by first|exact ja.refl _ _|exact ja.drewN _ _ _⟩
 case round =>
  obtain⟨j,hj,rfl,b⟩:=hrel;rcases ZM (j+1) t with av|aw
  ·have J:j<es.length:=by have:=u.out;omega
   have I:j+1<es.length:=by have:=u.out;omega
   have x1:=((v.out.same b).at (k:=j) J);have x2:=((v.out.same b).at (k:=j+1) I);obtain⟨b1,o1,E1,W,_,_⟩:=x1;obtain⟨b2,o2,E2,y2,_,_⟩:=x2;cases E1;cases E2;have d:es[j].key<es[j+1].key:=XY.1 aa.out j (j+1) J I (by omega);have f:Op.bytesLess es[j+1].key es[j].key=false:=by rw[bytesLess_eq];simpa using List.lt_asymm d
   have N:(es[j+1].key==es[j].key)=false:=by
    rw[beq_eq_false_iff_ne];intro e;rw[e] at d;exact XM _ d
   have ae:(j:Int)+1<(t:Int):=by omega
   clear d;generalize es[j].key=K1 at W f N;generalize es[j+1].key=K2 at y2 f N;go_wp2_with fail;go_quiet (fail);go_wp2;exact⟨⟨j+1,by omega,by simp,by first|exact b|exact b.tt (ja.drewN _ _ (fun _=>False))⟩,by simp[intOf];omega⟩
  ·have ej:t=j+1:=by omega
   have ar:=b.cell t1 id;have au:¬((j:Int)+1<(t:Int)):=by omega
   rcases O.out with hL|⟨ax,a9,h3,a7,M⟩
   ·have B:(i:Int)=(n:Int)-1:=by omega
    have S:((i:Int)==(n:Int)-1)=true:=by simp[B]
    go_wp2;go_ret;exact⟨rfl,E.tt b⟩
   ·have B:¬((i:Int)=(n:Int)-1):=by omega
    have S:((i:Int)==(n:Int)-1)=false:=by simp[B]
    obtain⟨b1,o1,E1,W,_,_⟩:=((v.out.same b).at (k:=3) h3);cases E1;have V:=((HH.out.same b).at (k:=i+1) (by rw[y];omega)).2.2;rw[Qo a7] at V;have f:Op.bytesLess es[3].key ps[i+1].2=true:=by rw[bytesLess_eq];simpa using M
    simp only at V;have af:(i:Int)+1<(n:Int):=by omega
    clear M;generalize es[3].key=K1 at W f;generalize ps[i+1].2=K2 at V f;have R:t=4:=by have:=u.out;omega
    subst R;have a5:j=3:=by omega
    subst a5;clear O v u ej a9;go_wp2_with fail;go_quiet (fail);go_wp2;go_ret;exact⟨rfl,by first|exact E.tt b|exact(E.tt b).tt (ja.drewN _ _ (fun _=>False))⟩
theorem jd3{b:List UInt8}(S:Xb E B w)(hB:B<=w.heap.size)(hn:ps.length=n)(hi:i<n)(h:Pls w g cap (Ym F ps n))(V:Bytes w (.slice p b.length c) b)(d:Rf.Ez b F ps i=some es)(f:Rf.Xo F ps i<=b.length)(hl:n<1048576)(b9:b.length<1099511627776) :
 Calls prog 238 #[Ko (.slice p b.length c) (.slice (some ⟨g,0,none⟩) n cap),j7 i] w fun e w'=>∃ v,e = .returned (.tuple #[v,.nilIface])/\w'.ownsRow w.heap.size 88 3 v es.length (jj es)/\ja w w' (fun _=>False):=by
 unfold Rf.Ez at d
 split at d
 ·rename_i hh htf
  split at d
  ·rename_i es' hre
   split at d
   ·rename_i hfit
    cases d;have hm:=Rf.Ao hre;have u:Rf.A8 ps i=ps[i].1:=by unfold Rf.A8;rw[xK (by omega)];rfl
    rw[u] at htf;have W:=Rf.Kg htf;rw[ZZ,ZN,xC f] at W;obtain⟨q,U⟩:∃ q,q=Rf.Xo F ps i:=⟨_,rfl⟩;rw[<-U] at htf W f;have T:=ja.alloc w (.cells #[.slice p b.length c,.slice (some ⟨g,0,none⟩) n cap] 323) (fun _=>False);have L:=zl F ps n;obtain⟨Z,Y,R⟩:=(h.same T).at (k:=i) (by rw[L];omega);rw[Qo (by omega),if_pos hi,<-U] at Z Y R;simp only at Z Y R;have t1:(w.alloc (.cells #[.slice p b.length c,.slice (some ⟨g,0,none⟩) n cap] 323)).heap[w.heap.size]?=some (.cells #[.slice p b.length c,.slice (some ⟨g,0,none⟩) n cap] 323 (0,0)):=je w _;obtain⟨p',c',ee,b1,b2,b3,b4⟩:=id V;cases ee;clear b3 b4
    have z:Bytes w (.slice (p.map (·.add ps[i].1)) (q-ps[i].1) (c-ps[i].1)) ((b.take q).drop ps[i].1):=by
     have I:(b.take q).length=q:=by rw[ZN];omega
     have:=Bytes.drop (l:=b.take q) (by rw[I];exact V.take q f) ps[i].1 (by omega);rw[I,if_neg (by omega)] at this;exact this
    have t:((b.take q).drop ps[i].1).length<1099511627776:=by rw[ZZ,ZN];omega
    generalize ps[i].1=X at Z Y R W htf z t;generalize ps[i].2=KX at R;have b8:¬c=X:=by omega
    have D:=fun w' (k:ja w w' (fun _=>False))=>lj (z.same k) htf t;have a7:=jb D;have a8:=jb t1;have O:=jb hfit;have a9:=jb hre;have HM:=jb hm;have HP:=jb h;clear D t1 hfit hre hm u h U z htf V;unfold maxLen at b2;have b0:X<=q:=by omega
    have b7:q<=c:=by omega
    go_enter func238,ntmps238;go_wp2_with fail;refine(a7.out _ (T.more _)).mono ?_;rintro e w1 ⟨v1,rfl,G,k1⟩;have K1:ja w w1 (fun _=>False):=(T.more _).tt k1;have H:=k1.same ((ja.alloc _ _ (fun _=>False)).same a8.out id) id;have J:=jb H;obtain⟨p1,c1,rfl,_⟩:=id G;clear H;go_wp2_with fail;refine(Xf _ _ _ G).mono ?_;rintro e w2 ⟨r,rfl,b6,hr,k2⟩;have K2:ja w w2 (fun _=>False):=K1.tt k2;have y:=nz 4 (by omega) (S.same K2) (by have:=K1.size;omega:B<=r) hr;rw[a9.out] at y;have aa:=jb y;clear y;go_wp2_with fail;refine aa.out.mono ?_;rintro e w3 ⟨k3,C⟩;rcases C with⟨cs,v,s,rfl,j⟩|⟨v,s,_⟩
    ·have M:cs=es:=by injection s with s;exact s.symm
     subst M;clear s;have b5:=K1.size;have K3:ja w w3 (fun _=>False):=Y9 K2 (by omega) k3;have A:=k3.same (k2.same J.out id) (by have:=zC J.out;omega);have a5:=Je j;obtain⟨pe,ce,rfl⟩:=jm j;have x:=HM.out;have hf:=jfe (p:=p) (m:=b.length) (c:=c) hn hi (HP.out.same K3) a5 x.2.1 x.2.2.1 O.out hl;have c0:=zA (o:=0) A;have a6:=zA (o:=1) A;simp at c0 a6;have HF:=jb hf;have N:=jb j;clear hf j A x;go_wp2_with fail;refine HF.out.mono ?_;rintro e w4 ⟨rfl,k4⟩;go_wp2;go_ret2;exact⟨_,rfl,q7 (k4.row N.out (fun _ _ h=>h)) K2.size,K3.tt k4⟩
    ·cases s
   ·cases d
  ·cases d
 ·cases d
theorem jgu(s:ByteArray)(w:World):Calls prog 128 #[.string s,.nilIface] w fun e w'=>e = .returned .nilIface/\w'=w:=by
 go_enter func128,ntmps128;go_wp2;go_ret;exact⟨rfl,rfl⟩
def Bb(S:jc)(nm:Str)(bl:List (List Rf.Ch)):Prop:=Rf.Laid bl/\∃ f a,S.at nm=some f/\S.files f=some a/\a.bytes=Rf.zx bl
def sl(w:World)(base:Nat)(rv:Value)(bl:List (List Rf.Ch)):Prop :=
 ∃ p c g cap,rv=Ko (.slice p (Rf.zx bl).length c) (.slice (some ⟨g,0,none⟩) bl.length cap)/\Bytes w (.slice p (Rf.zx bl).length c) (Rf.zx bl)/\Pls w g cap (Ym (bl.flatMap Rf.j4).length (Rf.j2 0 bl) bl.length)/\base<=g/\(∀ ad,p=some ad->base<=ad.block)
theorem sl.keep{base:Nat}(h:sl w base rv bl)(k:ja w w' T)(b:∀ i,base<=i->¬T i):sl w' base rv bl:=by
 obtain⟨p,c,g,cap,rfl,l,j,f,d⟩:=h;exact⟨p,c,g,cap,rfl,l.keep k (fun ad n c e=>by injection e with e;exact b _ (d ad e)),j.keep k (fun _=>b _ f),f,d⟩
def jec(E:Nat->Addr)(B:Nat)(ρ:Nat->j3)(d:Nat)(S:jc)(bl:List (List Rf.Ch))(w:World)(e:Ending)(w':World):Prop :=
 ja w w' (qj ρ)/\Dk E B w' ρ d (S.called false) /\
 ((S.bad=true/\∃ ev,e = .returned (.tuple #[Ko (.slice none 0 0) (.slice none 0 0),ev])/\lg E w' ev true) \/
  (S.bad=false/\∃ rv,e = .returned (.tuple #[rv,.nilIface])/\sl w' w.heap.size rv bl))
theorem Pj{ρ:Nat->j3}{d:Nat}{S:jc}{nm key:Str}(D:Dk E B w ρ d S)(Z:Small S)(hn:nm.length<1099511627776)(a3:Bb S nm bl)(a9:(Rf.zx bl).length<1099511627776) :
 Calls prog 235 #[.agg #[.pointer (some ⟨d,0,none⟩),jf nm,jf key]] w (jec E B ρ d S bl w):=by
 obtain⟨J,f,a,U,u,T⟩:=a3;have kA:ja w ((w.alloc (.cells #[.pointer (some ⟨d,0,none⟩),jf nm,jf key] 293)).alloc (.cells #[.slice none 0 0,.slice none 0 0] 323)) (fun _=>False):=(ja.alloc w _ _).more _;have N:=je w (.cells #[.pointer (some ⟨d,0,none⟩),jf nm,jf key] 293);have A:=je (w.alloc (.cells #[.pointer (some ⟨d,0,none⟩),jf nm,jf key] 293)) (.cells #[.slice none 0 0,.slice none 0 0] 323);rw[show(w.alloc (.cells #[.pointer (some ⟨d,0,none⟩),jf nm,jf key] 293)).heap.size=w.heap.size+1 by simp] at A;have y:=(ja.alloc (w.alloc (.cells #[.pointer (some ⟨d,0,none⟩),jf nm,jf key] 293)) (.cells #[.slice none 0 0,.slice none 0 0] 323) (fun _=>False)).same N id;have O:=X9 (D.same kA) Z nm hn;have Y:=jb y;have X:=jb A;have a0:=jb O;have a2:=jb U;have af:=jb u;have ag:=jb T;clear N y A O U u T;have hρ:=D.rep.lt;go_enter func235,ntmps235;go_wp2_with fail;refine a0.out.mono ?_;rintro e M ⟨g1,D1,I⟩;have nT:∀ i,w.heap.size<=i->¬qj ρ i:=fun i hi h=>by have:=hρ i h;omega
 have K1:ja w M (qj ρ):=(kA.up).tt g1.keeps;have W:=g1.keeps.same Y.out (nT _ (ZQ _));have H:=g1.keeps.same X.out (nT _ (by omega));have am:w.heap.size+1<M.heap.size:=zC H;have ac:=jb W;have k:=jb H;clear W H Y X a0;rcases I with⟨b,v,rfl,he⟩|⟨b,s,_⟩|⟨b,f',a',v,q,n,rfl,j⟩
 ·obtain⟨t,ad,rfl⟩:=he.shape
  have q0:=zA (o:=0) k.out;have q1:=zA (o:=1) k.out;have f0:=zB (o:=0) k.out;have f1:=zB (o:=1) k.out;simp at q0 q1;have HE:=jb he;have r:=jb b;clear he b;go_wp2;refine bodyPost_ret (pj rfl rfl (run_set k.out)) rfl ?_;have x:=Ux M (w.heap.size+1) (.slice none 0 0) (.slice none 0 0);refine⟨K1.trans x (fun i hi e=>by have z:i=w.heap.size+1:=e;omega),D1.apart x (fun i hi e=>?_),.inl ⟨r.out,_,rfl,1,HE.out.keep x (fun i c hi e=>?_),by decide,by simp⟩⟩
  ·have z:i=w.heap.size+1:=e
   rw[z];exact⟨nT _ (by omega),by have:=D.size;omega⟩
  ·have z:i=w.heap.size+1:=hi
   subst z;rw[k.out] at e;cases e
 ·rw[a2.out] at s
  cases s
 ·have e1:f'=f:=by rw[a2.out] at q;cases q;rfl
  subst e1;have e2:a'=a:=by rw[af.out] at n;cases n;rfl
  subst e2;rw[ag.out] at j;clear q n;obtain⟨p,c,rfl⟩:=jm j;have F:=x7 j;have R:=j.lt;have C:=T6 F J.read a9;rw[Rf.xm] at C;have ae:=jb C;have ah:=jb F;have r:=jb b;have a1:=jb R;clear C j b F R;go_wp2_with fail;refine ae.out.mono ?_;rintro e L ⟨g,cap,rfl,l,x⟩;have aa:=Ub (by rw[zl,Rf.xm]) l;have V:=(x.more (.cells #[.slice p (Rf.zx bl).length c,.slice (some ⟨g,0,none⟩) bl.length cap] 323)).same ac.out id;have m:=(x.more (.cells #[.slice p (Rf.zx bl).length c,.slice (some ⟨g,0,none⟩) bl.length cap] 323)).same k.out id;have G:=je L (.cells #[.slice p (Rf.zx bl).length c,.slice (some ⟨g,0,none⟩) bl.length cap] 323);have x1:=zA (o:=1) V;have y0:=zA (o:=0) m;have y1:=zA (o:=1) m;have g0:=zB (o:=0) m;have b3:=zB (o:=1) m;have z0:=zA (o:=0) G;have z1:=zA (o:=1) G;simp at x1 y0 y1;have ab:=jb m;have b2:¬L.heap.size=w.heap.size+1:=by have:=x.size;omega
  have b1:¬w.heap.size+1=L.heap.size:=by have:=x.size;omega
  clear V m G;go_wp2_with fail
  go_region_with (go_at_call 128;refine(jgu _ _).mono ?_;rintro e w' ⟨rfl,rfl⟩)
  all_goals
   go_wp2;refine bodyPost_ret (pj rfl rfl (run_set ab.out)) rfl ?_;have k3:ja M (L.alloc (.cells #[.slice p (Rf.zx bl).length c,.slice (some ⟨g,0,none⟩) bl.length cap] 323)) (fun _=>False):=x.more _;have k4:=Ux (L.alloc (.cells #[.slice p (Rf.zx bl).length c,.slice (some ⟨g,0,none⟩) bl.length cap] 323)) (w.heap.size+1) (.slice p (Rf.zx bl).length c) (.slice (some ⟨g,0,none⟩) bl.length cap);have k5:ja M _ (fun i=>i=w.heap.size+1):=((k3.up).tt k4).draw;refine⟨K1.trans k5 (fun i hi e=>by have z:i=w.heap.size+1:=e;omega),D1.apart k5 (fun i hi e=>?_),.inr ⟨r.out,_,rfl,p,c,g,cap,rfl,ah.out.keep k5 (fun ad n' c' e=>?_),aa.keep (((ja.alloc L _ (fun i=>i=w.heap.size+1)).tt k4).draw) (fun _=>?_),?_,fun ad e=>?_⟩⟩
   ·have z:i=w.heap.size+1:=e
    rw[z];exact⟨nT _ (by omega),by have:=D.size;omega⟩
   ·injection e with e
    have:=(a1.out ad.block (by rw[e];rfl)).1;simp at this;omega
   ·have:=(l.lt g rfl).1
    omega
   ·have:=(l.lt g rfl).1
    omega
   ·have:=(a1.out ad.block (by rw[e];rfl)).1
    simp at this;omega
def bu(bl:List (List Rf.Ch))(key:Str)(i:Nat):List Rf.Ch:=((bl.take i).flatten).filter (Rf.qk key)
def o9(S:jc)(bl:List (List Rf.Ch))(key:Str):List Rf.Ch:=if S.bad=true then [] else bl.flatten.filter (Rf.qk key)
def Zt(S:jc):Option Bool:=if S.bad=true then some true else none
theorem Vd{key:Str}(h:bl.length<=i):bu bl key i=bl.flatten.filter (Rf.qk key):=by unfold bu;rw[ZF h]
theorem N8(h:Rf.Laid bl)(key:Str):bu bl key (Rf.gz (Rf.j2 0 bl) key)=[] :=
 List.filter_eq_nil_iff.2 (fun c hc=>by simpa [Rf.qk] using h.jes key c hc)
theorem Sl{key:Str}{b:List Rf.Ch}(h:bl[i]?=some b):bu bl key (i+1)=bu bl key i++b.filter (Rf.qk key):=by
 unfold bu;rw[xJ,h,XP,List.flatten_append,zI];simp
theorem jff{key:Str}{b:List Rf.Ch}{c:Rf.Ch}(h:bl[i]?=some b)(f:b[j]?=some c)(k:Rf.qk key c=true) :
 let pre:=bu bl key i++(b.take j).filter (Rf.qk key)
 pre=(bl.flatten.filter (Rf.qk key)).take pre.length/\(bl.flatten.filter (Rf.qk key))[pre.length]?=some c:=by
 intro pre
 have l:b=b.take j++c::b.drop (j+1):=by
  have e:b[j]'((zZ.1 f).1)=c:=(zZ.1 f).2;rw[<-e,ZJ,zJ]
 have g:bl=bl.take i++b::bl.drop (i+1):=by
  have e:bl[i]'((zZ.1 h).1)=b:=(zZ.1 h).2;rw[<-e,ZJ,zJ]
 have d:bl.flatten.filter (Rf.qk key)=pre++c::((b.drop (j+1)).filter (Rf.qk key)++((bl.drop (i+1)).flatten).filter (Rf.qk key)):=by
  conv=>lhs;rw[g]
  rw[List.flatten_append,List.flatten_cons,zI,zI]
  conv=>lhs;arg 2;arg 1;rw[l]
  rw[zI,xV k];simp[pre,bu]
 rw[d];constructor
 ·simp
 ·simp
theorem jev(key:Str):Rf.gz ps key<=ps.length:=by
 have:=Rf.A9 ps key;unfold Rf.gz
 split<;>omega
theorem jer(i:Nat):Rf.Xo (bl.flatMap Rf.j4).length (Rf.j2 0 bl) i<=(Rf.zx bl).length:=by
 have c:(bl.flatMap Rf.j4).length<=(Rf.zx bl).length:=by unfold Rf.zx;rw[ZC,ZC];omega
 have b:Rf.Xo (bl.flatMap Rf.j4).length (Rf.j2 0 bl) i<=(bl.flatMap Rf.j4).length:=by
  unfold Rf.Xo
  cases h:(Rf.j2 0 bl)[i+1]? with
  | none=>exact ZQ _
  | some p =>
   have:=(Rf.l8 0 bl p (XL h)).2;show p.1<=_;omega
 omega
theorem sl.jhm{base:Nat}(h:sl w base rv bl)(b:Rf.Laid bl)(key:Str) :
 Calls prog 236 #[rv,jf key] w fun e w'=>e = .returned (j7 (Rf.gz (Rf.j2 0 bl) key))/\ja w w' (fun _=>False):=by
 obtain⟨p,c,g,cap,rfl,j,d,i,f⟩:=h;have:=b.small.2;exact jch key (Rf.xm 0 bl) d (b.jgf key) (by omega)
theorem sl.count{base:Nat}(h:sl w base rv bl) :
 Calls prog 237 #[rv] w fun e w'=>e = .returned (j7 bl.length)/\ja w w' (fun _=>False):=by
 obtain⟨p,c,g,cap,rfl,i,f,d,b⟩:=h;exact jbl
theorem sl.block{base:Nat}(h:sl w base rv bl)(f:Rf.Laid bl)(d:(Rf.zx bl).length<1099511627776)(S:Xb E B w)(k:B<=w.heap.size){b:List Rf.Ch}(j:bl[i]?=some b) :
 Calls prog 238 #[rv,j7 i] w fun e w'=>∃ v,e = .returned (.tuple #[v,.nilIface])/\w'.ownsRow w.heap.size 88 3 v b.length (jj b)/\ja w w' (fun _=>False):=by
 obtain⟨p,c,g,cap,rfl,m,l,o,n⟩:=h;have:=f.small.2;exact jd3 S k (Rf.xm 0 bl) (zZ.1 j).1 l m (f.block j) (jer i) (by omega) d
theorem uz(b:Array Value)(w:World):(callFunc 212 b).run prog w = .ok (.enter 212 b) w:=by kernel_rfl
end Go.Proofs.YtnipbplghijdmaaGreatDoor
namespace Go.Proofs.YtnipbplghijdmaaGreatDoor
open RowKit Maps WideShapes Go.Proofs.Tryz
attribute [local go_sem] Oper.semAt_some
structure Vq(E:Nat->Addr)(B:Nat)(ρ:Nat->j3)(d:Nat)(S:jc)(nm:Str)(bl:List (List Rf.Ch))(W:World):Prop where
 dk:Dk E B W ρ d S
 small:Small S
 run:Bb S nm bl
theorem ui{E:Nat->Addr}{B:Nat}{ρ:Nat->j3}{d n:Nat}{S:jc}(nm key:Str)(g:List (List Rf.Ch))(hn:nm.length<1099511627776)(ba:(Rf.zx g).length<1099511627776) :
 I6 Fence.wide n prog 212 #[.agg #[.pointer (some ⟨d,0,none⟩),jf nm,jf key]] #[] encI (qj ρ) (fun i=>i<B) (Vq E B ρ d S nm g) (jen E (o9 S g key) (Zt S)) (jem E B ρ d (S.called false) (o9 S g key) (Zt S)) (Ld E B ρ d (S.called false)):=by
 intro lp n₀ J Jx aJ hY C W bi hC e7 hS ax;have bq:∀ i,C i->¬qj ρ i/\B<=i:=fun i hc=>⟨(hC i hc).1,Nat.le_of_not_lt (hC i hc).2⟩;have kA:=ja.alloc W (.cells #[.pointer (some ⟨d,0,none⟩),jf nm,jf key] 293) (fun _=>False);have a6:=Pj (key:=key) (hS.dk.same kA) hS.small hn hS.run ba;have m:=hS.run.1;have bs:=je W (.cells #[.pointer (some ⟨d,0,none⟩),jf nm,jf key] 293);have hρ:=hS.dk.rep.lt;have ea:=hS.dk.size;have nT:∀ i,W.heap.size<=i->¬qj ρ i:=fun i hi h=>by have:=hρ i h;omega
 have b3:=jb a6;have d3:=jb bs;have HC:=jb hC;have X:=jb bi;clear a6 bs hS hC bi;show CallsIn Fence.wide n prog 212 #[.agg #[.pointer (some ⟨d,0,none⟩),jf nm,jf key],.func (.yield lp) #[] #[]] W _;refine callsIn_of_wp func212 rfl trivial ?_ rfl;simp only[ntmps212,zG,zP,zQ,Nat.reduceAdd,Nat.reduceSub,zR,zS,zT,zU,zV,zW]
 gi_wp2_with fail
 refine⟨trivial,fun h=>(by simp[Fence.wide] at h),(callsIn_wide.2 b3.out).mono ?_⟩;rintro e M ⟨k1,D1,⟨s,ev,rfl,bf⟩|⟨s,rv,rfl,Y⟩⟩
 all_goals
  have kW:ja W M (qj ρ):=(kA.up).tt k1;have e6:W.heap.size+1<=M.heap.size:=by have:=k1.size;simpa using this
 ·obtain⟨te,ae,rfl⟩:=bf.shape
  have eL:o9 S g key=[]:=by unfold o9;rw[if_pos s]
  have eE:Zt S=some true:=by unfold Zt;rw[if_pos s]
  rw[eL,eE] at hY;have HL:=jb eL;have HE:=jb eE;have kB:=ja.alloc M (.cells #[.slice none 0 0,.slice none 0 0] 323) (fun _=>False);have cw:=aJ _ _ _ _ (aJ _ _ _ _ ax (fi kW (fun i _ h=> .inl h))) (Qz kB);have bx:∀ i,C i->i<(M.alloc (.cells #[.slice none 0 0,.slice none 0 0] 323)).heap.size:=fun i h=>by have:=X.out i h;simp;omega
  obtain⟨fn,tmps,assign,body,hy,hR⟩:=hY [] (dz,.iface te (.pointer (some ae))) C _ cw bx (.inr ⟨true,rfl,rfl,rfl,bf.same kB⟩);dsimp only[encI,dz] at hy;have HR:=jb hR;have I:=jb (D1.same kB);clear hR D1 eL eE hY
  gi_wp2
  refine⟨fun h=>by simp[Fence.wide] at h,HR.out.mono ?_⟩;rintro e W3 ⟨C2,ao,T,a8,ap⟩;have D3:=I.out.apart a8 (fun i _ h=>bq i h)
  have a4:∀ i,C2 i->C i\/W.heap.size<=i:=fun i h=>by
   rcases ao i h with h|h
   ·exact .inl h
   ·simp at h
    exact .inr (by omega)
  rcases ap with⟨rfl,V⟩|⟨rfl,c1⟩
  ·gi_wp2
   refine bodyPost_ret (results_none rfl _ _ _) rfl ?_;exact⟨C2,a4,T,⟨_,rfl⟩,.inl ⟨_,⟨D3,.inr ⟨true,_,HE.out,⟨te,ae,rfl⟩,by rw[HL.out];rfl⟩⟩,V⟩⟩
  ·gi_wp2
   refine bodyPost_ret (results_none rfl _ _ _) rfl ?_;exact⟨C2,a4,T,⟨_,rfl⟩,.inr ⟨_,D3,c1⟩⟩
 ·have eL:o9 S g key=g.flatten.filter (Rf.qk key):=by unfold o9;rw[if_neg (by rw[s];decide)]
  have eE:Zt S=none:=by unfold Zt;rw[if_neg (by rw[s];decide)]
  rw[eL,eE] at hY;have HL:=jb eL;have HE:=jb eE;have HY:=jb hY;clear eL eE hY;obtain⟨pr,cr,gr,q,cn,co⟩:=id Y;subst cn;have kQ:=ja.alloc M (.cells #[.slice pr (Rf.zx g).length cr,.slice (some ⟨gr,0,none⟩) g.length q] 323) (fun _=>False);have ar:=je M (.cells #[.slice pr (Rf.zx g).length cr,.slice (some ⟨gr,0,none⟩) g.length q] 323);have au:=kQ.same (k1.same d3.out (nT _ (ZQ _))) id;have U:=Y.keep kQ (fun _ _=>id);have DQ:=D1.same kQ;have bo:=aJ _ _ _ _ (aJ _ _ _ _ ax (fi kW (fun i _ h=> .inl h))) (Qz kQ);have bt:(M.alloc (.cells #[.slice pr (Rf.zx g).length cr,.slice (some ⟨gr,0,none⟩) g.length q] 323)).heap.size=M.heap.size+1:=by simp
  have bv:(W.alloc (.cells #[.pointer (some ⟨d,0,none⟩),jf nm,jf key] 293)).heap.size=W.heap.size+1:=by simp
  rw[bv] at U;have a5:=U.jhm m key;obtain⟨t,N⟩:∃ t,t=M.alloc (.cells #[.slice pr (Rf.zx g).length cr,.slice (some ⟨gr,0,none⟩) g.length q] 323):=⟨_,rfl⟩;rw[<-N] at au ar U DQ bo bt
  have ay:∀ w',ja t w' C->w'.cell? ⟨M.heap.size,0,none⟩=some (.slice pr (Rf.zx g).length cr)/\w'.cell? ⟨M.heap.size,1,none⟩=some (.slice (some ⟨gr,0,none⟩) g.length q)/\w'.cell? ⟨W.heap.size,2,none⟩=some (jf key):=by
   intro w' k;have h1:=k.same ar (fun h=>by have:=X.out _ h;omega);have h0:=k.same au (fun h=>by have:=X.out _ h;omega);exact⟨(zA h1).trans rfl,(zA h1).trans rfl,(zA h0).trans rfl⟩
  have a0:∀ w',ja t w' C->sl w' (W.heap.size+1) (Ko (.slice pr (Rf.zx g).length cr) (.slice (some ⟨gr,0,none⟩) g.length q)) g:=fun w' k=>U.keep k (fun i hi h=>by have:=X.out _ h;omega);have ai:∀ w',ja t w' C->Dk E B w' ρ d (S.called false):=fun w' k=>DQ.apart k (fun i _ h=>bq i h);have bj:=ay t (ja.refl _ _);rw[N] at bj;obtain⟨b0,b1,b2⟩:=bj;have d0:=jb a5;have Z:=jb ay;have aj:=jb a0;have I:=jb ai;clear a5 ay a0 ai au ar U Y co DQ ax
  gi_wp2_with fail
  refine⟨trivial,fun h=>(by simp[Fence.wide] at h),(callsIn_wide.2 d0.out).mono ?_⟩;rintro e w2 ⟨rfl,k2⟩;rw[<-N] at k2;have cu:=aJ _ _ _ _ bo (Qz k2);have cq:ja t w2 C:=k2.up;have cm:Rf.gz (Rf.j2 0 g) key<=g.length:=by have:=jev (ps:=Rf.j2 0 g) key;rwa [Rf.xm] at this
  have bg:=N8 m key;have e8:=m.small.2;have d1:=jb bg;have ee:=jb N;clear bg N
  gi_wp2
  gi_loopw [6] (fun iv wr=>∃(i:Nat) (G:Nat->Prop),i<=g.length/\iv=j7 i/\J ((bu g key i).map Ja) G wr/\(∀ x,G x->C x\/t.heap.size<=x)/\(∀ x,G x->x<wr.heap.size)/\ja t wr C)
   (fun iv _=>g.length-(intOf iv).toNat)
  case atStart=>exact⟨_,C,cm,rfl,by rw[d1.out];exact cu,fun _ h=> .inl h,fun x h=>by have:=X.out x h;have:=k2.size;omega,cq⟩
  case round =>
   obtain⟨i,G,hi,rfl,cs,z,ah,aq⟩:=hrel;obtain⟨b0,b1,b2⟩:=Z.out wr aq
   gi_wp2_with fail
   refine⟨trivial,fun h=>(by simp[Fence.wide] at h),(callsIn_wide.2 (aj.out wr aq).count).mono ?_⟩;rintro e w3 ⟨rfl,k3⟩;have y:ja t w3 C:=aq.trans k3 (fun _ _ h=>h.elim);have V:=aJ _ _ _ _ cs (Qz k3);rcases ZM i g.length with be|e9
   ·obtain⟨b,hb⟩:∃ b,g[i]?=some b:=⟨_,xK be⟩
    have cy:B<=w3.heap.size:=(I.out _ y).size;have ac:=(aj.out _ y).block m ba (I.out _ y).z8 cy hb;obtain⟨ed,ec,eb⟩:=Z.out w3 y;have d5:=m.len b (XL hb);have c3:=jb ac;have HB:=jb hb;have dj:(i:Int)<(g.length:Int):=by omega
    clear ac hb
    gi_wp2_with fail
    refine⟨trivial,fun h=>(by simp[Fence.wide] at h),(callsIn_wide.2 c3.out).mono ?_⟩;rintro e w4 ⟨v,rfl,A,k4⟩;have av:ja t w4 C:=y.trans k4 (fun _ _ h=>h.elim);have bp:=aJ _ _ _ _ V (Qz k4);have bh:=Je A;obtain⟨pv,cv,rfl⟩:=jm A;have a1:∀ ad,pv=some ad->w3.heap.size<=ad.block/\ad.block<w4.heap.size:=fun ad e=>A.lt ad.block (by rw[e];rfl);have br:∀ x,G x->x<w3.heap.size:=fun x h=>by have:=ah x h;have:=k3.size;omega
    have d2:=jb bh;have cz:=jb a1;have di:=k4.size;have dh:=y.size;have c2:J ((bu g key i++(b.take 0).filter (Rf.qk key)).map Ja) G w4:=by simpa using bp
    clear A bh a1 bp
    gi_wp2
    gi_loopw [49] (fun jv wr=>∃(j:Nat) (D':Nat->Prop),j<=b.length/\jv=j7 j/\J ((bu g key i++(b.take j).filter (Rf.qk key)).map Ja) D' wr/\(∀ x,D' x->G x\/w4.heap.size<=x)/\(∀ x,D' x->x<wr.heap.size)/\ja w4 wr G)
     (fun jv _=>b.length-(intOf jv).toNat)
    case atStart=>exact⟨0,G,zX _,rfl,c2,fun _ h=> .inl h,fun x h=>by have:=br x h;omega,ja.refl _ _⟩
    case round =>
     obtain⟨j,D',hj,rfl,aw,r,af,F⟩:=hrel;have bk:ja t wr C:=av.trans F (fun x hx h=>(z x h).resolve_right (by omega))
     have a3:∀ x,D' x->C x\/t.heap.size<=x:=fun x h=>by
      rcases r x h with h|h
      ·exact z x h
      ·have:=av.size
       exact .inr (by omega)
     have bw:Chs wr (.slice pv b.length cv) b:=d2.out.keep F (fun _ p' n c e h=>by
      injection e with e
      have:=(cz.out p' e).1
      have:=br _ h
      omega)
     have e5:=F.size;rcases ZM j b.length with D|dl
     ·obtain⟨bb,oo,rfl,e0,e1,e2⟩:=bw.at D
      generalize hx:b[j]=x at e0 e1 e2;obtain⟨u,l,L⟩:=x;simp only at e0 e1 e2;have R:b[j]?=some ⟨u,l,L⟩:=by rw[xK D,hx]
      have ka:=ja.alloc wr (.cells #[jf u,jf l,.bool L] 88) (fun _=>False);have bm:ja t (wr.alloc (.cells #[jf u,jf l,.bool L] 88)) C:=bk.trans ka (fun _ _ h=>h.elim);obtain⟨_,_,m2⟩:=Z.out _ bm;have O:=je wr (.cells #[jf u,jf l,.bool L] 88);have y0:=zA (o:=0) O;have y1:=zA (o:=1) O;have y2:=zA (o:=2) O;simp at y0 y1 y2;have bn:=aJ _ _ _ _ aw (Qz ka);have ag:∀ x,D' x->x<(wr.alloc (.cells #[jf u,jf l,.bool L] 88)).heap.size:=fun x h=>ZA (af x h) ka.size
      have H:(b.take (j+1)).filter (Rf.qk key)=(b.take j).filter (Rf.qk key)++(if Rf.qk key ⟨u,l,L⟩=true then [⟨u,l,L⟩] else []):=by
       rw[xJ,R,XP,zI];by_cases h9:Rf.qk key ⟨u,l,L⟩=true<;>simp[h9]
      have ab:ja w4 (wr.alloc (.cells #[jf u,jf l,.bool L] 88)) G:=F.trans ka (fun _ _ h=>h.elim);have d4:(j:Int)<(b.length:Int):=by omega
      by_cases hb5:u<key
      ·have p:Rf.qk key ⟨u,l,L⟩=false:=by simp[Rf.qk,hb5]
       have cx:Op.bytesLess u key=true:=by rw[bytesLess_eq];simpa using hb5
       rw[p,if_neg (by decide),ZB] at H;have az:=jb H;have ef:=jb R;clear H R hb5 p hx O
       gi_wp2
       refine⟨fun f h=>(by cases h),?_⟩
       gi_wp2
       go_roundw
       case rel=>exact⟨j+1,D',D,by simp,by rw[az.out];exact bn,r,ag,ab⟩
       case measure=>simp[intOf];omega
      ·have p:Rf.qk key ⟨u,l,L⟩=true:=by simp[Rf.qk,hb5]
       have cx:Op.bytesLess u key=false:=by rw[bytesLess_eq];simpa using hb5
       rw[p,if_pos rfl] at H;obtain⟨bd,bc⟩:=jff HB.out R p;obtain⟨fn,tmps,assign,body,hy,hR⟩:=HY.out ((bu g key i++(b.take j).filter (Rf.qk key)).map Ja) (Ja ⟨u,l,L⟩) D' _ bn ag (.inl ⟨_,_,congrArg (List.map Ja) bd,bc,rfl⟩);dsimp only[encI,Ja] at hy;have HR:=jb hR;have az:=jb H;clear hR H bd bc R hb5 p hx O
       gi_wp2
       refine⟨fun h=>by simp[Fence.wide] at h,HR.out.mono ?_⟩;rintro e W3 ⟨C2,ao,T,a8,ap⟩
       have a2:∀ x,C2 x->G x\/w4.heap.size<=x:=fun x h=>by
        rcases ao x h with h|h
        ·exact r x h
        ·simp at h
         exact .inr (by omega)
       have cp:ja w4 W3 G:=ab.trans a8 (fun x hx h=>(r x h).resolve_right (by omega));have bz:ja t W3 C:=bm.trans a8 (fun x hx h=>(a3 x h).resolve_right (by omega));rcases ap with⟨rfl,ct⟩|⟨rfl,c0⟩
       ·gi_wp2
        go_roundw
        case rel =>
         refine⟨j+1,C2,D,by simp,?_,a2,T,cp⟩;rw[az.out,<-zF,xZ];exact ct
        case measure=>simp[intOf];omega
       ·gi_wp2
        refine bodyPost_ret (results_none rfl _ _ _) rfl ?_;refine⟨C2,fun x h=>?_,T,⟨_,rfl⟩,.inr ⟨_,I.out _ bz,c0⟩⟩;rcases a2 x h with h|h
        ·exact(z x h).imp id (fun h=>by omega)
        ·have:=av.size
         exact .inr (by omega)
     ·obtain rfl:j=b.length:=by omega
      rw[ZE,<-Sl HB.out] at aw
      gi_wp2
      go_roundw
      case rel=>exact⟨i+1,D',be,by simp,aw,a3,af,bk⟩
      case measure=>simp[intOf];omega
   ·obtain rfl:i=g.length:=by omega
    gi_wp2
    go_end0;refine⟨G,fun x h=>(z x h).imp id (fun h=>by omega),fun x h=>by have:=ah x h;have:=k3.size;omega,⟨_,rfl⟩,.inl ⟨_,⟨I.out _ y,.inl ⟨HE.out,by rw[HL.out]⟩⟩,?_⟩⟩;rw[Vd (ZQ _)] at V;exact V
end Go.Proofs.YtnipbplghijdmaaGreatDoor
namespace Go.Proofs.YtnipbplghijdmaaGreatDoor
open RowKit Maps WideShapes Go.Proofs.Tryz
variable {E:Nat->Addr} {B d:Nat} {w:World} {l:List Rf.Ch} {bl:List (List Rf.Ch)} {ns:List Nat} {bls:List (List (List Rf.Ch))}
def Yx(l:List Rf.Ch):J4:=fun S=>(S,l,none)
def Y4(bl:List (List Rf.Ch))(key:Str):J4:=fun S=>(S.called false,o9 S bl key,Zt S)
theorem jdc{P:jc->Prop}{ρ:Nat->j3}{v:Value}(j:Chs w v l)(f:l.length<1048576)(m:∀ p n c,v = .slice (some p) n c->¬qj ρ p.block/\p.block<w.heap.size)(o:B<=w.heap.size):iu P E B ρ d w (Bq v) (Yx l):=by
 intro g W S k D Z;refine⟨Z,f,?_⟩;have b:Chs W v l:=j.keep k (fun _ p n c e=>(m p n c e).1);refine vt (Needs:=Wm B v) (Start:=fun W=>Chs W v l/\Dk E B W ρ d S) fg (fun n=>eu v l f) (fun i g=>?_) (fun W' k'=>⟨b.same k',D.same k'⟩) D.rep.lt D.size g f;rcases g with h|⟨p,n,c,e,rfl⟩
 ·have:=D.size
  omega
 ·exact ZA (m p n c e).2 k.size
theorem jcm{P:jc->Prop}{ρ:Nat->j3}{m:Nat}{key:Str}(l:m<=9223372036854775807)(f:(Rf.zx bl).length<1099511627776)(g:bl.flatten.length<1048576)(o:∀ S,P S->P (S.called false)/\Small S/\Bb S (jo m) bl):iu P E B ρ d w (Yk d m key) (Y4 bl key):=by
 intro c W S k D Z;obtain⟨r,q,p⟩:=o S Z
 have b:(o9 S bl key).length<1048576:=by
  unfold o9
  split
  ·simp
  ·have:=ZT (Rf.qk key) bl.flatten
   omega
 refine⟨r,b,?_⟩
 have j:(jo m).length<1099511627776:=by
  have:=yj l;unfold jo;rw[ZC];simp;omega
 exact vt (Needs:=fun i=>i<B) (Start:=Vq E B ρ d S (jo m) bl) uz (fun n=>ui (jo m) key bl j f) (fun i c=>ZA c D.size) (fun W' k'=>⟨D.same k',q,p⟩) D.rep.lt D.size c b
structure fk(P:jc->Prop)(ns:List Nat)(bls:List (List (List Rf.Ch))):Prop where
 len:bls.length=ns.length
 num:∀ n∈ns,n<=9223372036854775807
 small:∀ bl∈bls,(Rf.zx bl).length<1099511627776/\bl.flatten.length<1048576/\Rf.Laid bl
 file:∀(k n:Nat) bl,ns[k]?=some n->bls[k]?=some bl->∀ S,P S->Bb S (jo n) bl
 step:∀ S,P S->P (S.called false)/\Small S
abbrev xx(bls:List (List (List Rf.Ch)))(key:Str):List J4:=bls.map (fun bl=>Y4 bl key)
theorem fk.layers{P:jc->Prop}(h:fk P ns bls){ρ:Nat->j3}(key:Str) :
 ∀(k:Nat) f st,(ns.map (fun n=>Yk d n key))[k]?=some f->(xx bls key)[k]?=some st->iu P E B ρ d w f st:=by
 intro k f st c b;rw[xP] at c b
 cases hn:ns[k]? with
 | none=>rw[hn] at c;cases c
 | some n =>
  cases hb:bls[k]? with
  | none=>rw[hb] at b;cases b
  | some bl =>
   rw[hn] at c;rw[hb] at b;cases c;cases b;have g:=h.small bl (XL hb);exact jcm (h.num n (XL hn)) g.1 g.2.1 (fun S hS=>⟨(h.step S hS).1,(h.step S hS).2,h.file k n bl hn hb S hS⟩)
def lf(l:List Rf.Ch):Prop:=Rf.jw l/\(∀ c∈l,c.key≠[])/\l.length<1048576
theorem lf.up(h:lf l)(d:Str):lf (Y0 d l):=by
 have b:(Y0 d l).Sublist l:=List.takeWhile_sublist _;exact⟨h.1.sublist b,fun c hc=>h.2.1 c (b.subset hc),zM b.length_le h.2.2⟩
theorem uw{f:Str}{c:List J4}(h:∀ st∈c,∀ S,lf (st S).2.1):∀ {S:jc} {ls:List (List Rf.Ch)},(j9 f c S).2 = .inl ls->∀ l∈ls,lf l:=by
 induction c with
 | nil =>
  intro S ls e l d;cases e;cases d
 | cons st r ih =>
  intro S ls e l d;unfold j9 at e
  cases hg:Zd f (st S)with
  | none=>rw[hg] at e;cases e
  | some x =>
   rw[hg] at e;simp only at e
   cases hr:j9 f r (st S).1 with
   | mk S2 q =>
    rw[hr] at e
    cases q with
    | inr b=>cases e
    | inl ls2 =>
     cases e;rcases zN.1 d with rfl|d
     ·unfold Zd at hg
      split at hg
      ·cases hg
       exact(h st ZG S).up f
      ·cases hg
     ·exact ih (fun st' h'=>h st' (ZH _ h')) (by rw[hr]) l d
theorem wg.of{ls:List (List Rf.Ch)}(h:∀ l∈ls,lf l):wg ls:=⟨fun l hl=>(h l hl).1,fun l hl=>(h l hl).2.1,fun l hl=>(h l hl).2.2⟩
theorem jcl(h:Rf.Laid bl)(g:bl.flatten.length<1048576)(key:Str)(S:jc):lf (Y4 bl key S).2.1:=by
 show lf (o9 S bl key);unfold o9
 split
 ·exact⟨List.Pairwise.nil,⟨fun c hc=>(by cases hc),ZD _⟩⟩
 ·have d:(bl.flatten.filter (Rf.qk key)).Sublist bl.flatten:=XQ
  refine⟨h.rising.sublist d,fun c hc=>?_,zM d.length_le g⟩;obtain⟨b,i,f⟩:=List.mem_flatten.1 (d.subset hc);have:=(Rf.Jk c).1 (h.ok b i c f);intro e;rw[e] at this;simp at this
theorem fk.yy{P:jc->Prop}(h:fk P ns bls)(key:Str):∀ st∈xx bls key,∀ S,lf (st S).2.1:=by
 intro st b S;obtain⟨bl,c,rfl⟩:=zO.1 b;exact jcl (h.small bl c).2.2 (h.small bl c).2.1 key S
theorem Lv(p:Option Addr)(m c:Nat)(b:Str)(w:World):Calls prog 71 #[.slice p m c,jf b] w fun e w'=>e = .returned (.func (.func 123) #[.agg #[.slice p m c,jf b]] #[])/\w'=w:=by
 go_enter func71,ntmps71;go_wp2;go_ret;exact⟨rfl,rfl⟩
end Go.Proofs.YtnipbplghijdmaaGreatDoor
