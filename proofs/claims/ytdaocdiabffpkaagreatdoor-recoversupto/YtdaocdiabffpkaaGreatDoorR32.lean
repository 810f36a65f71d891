/-
-/
import Derived.Deep.RegionHeld
import Derived.Test.YtdaocdiabffpkaaGreatDoorR31
set_option maxRecDepth 100000
set_option maxHeartbeats 8000000
set_option linter.all false
namespace Go.Proofs.YtdaocdiabffpkaaGreatDoor
open RowKit Maps WideShapes Go.Proofs.Tryz
section
variable {w:World} {b c n:Nat} {a0 a1 a2 a3:Int} {p:Option Addr} {x5 x6:Bool}
theorem jgy(h:w.heap[b]?=some (.cells #[aA a0,aA a1,aA a2,aA a3,.slice p n c,.bool x5,.bool x6] 53 (0,0))):(loadVar 53 (A2 b)).run prog w=.ok (.agg #[aA a0,aA a1,aA a2,aA a3,.slice p n c,.bool x5,.bool x6]) w:=by have l:=zK 0 h;have k:=zK 1 h;have j:=zK 2 h;have i:=zK 3 h;have g:=zK 4 h;have f:=zK 5 h;have d:=zK 6 h;simp at l k j i g f d;go_simp
theorem De{fn:Func}{t:Tmp}(h:fn.results=#[.cell t 53]){tmps:Array Value}(f:tmps.getD t undef = P1 b)(g:w.heap[b]?=some (.cells #[aA a0,aA a1,aA a2,aA a3,.slice p n c,.bool x5,.bool x6] 53 (0,0))):(results fn tmps).run prog w=.ok (.agg #[aA a0,aA a1,aA a2,aA a3,.slice p n c,.bool x5,.bool x6]) w:=by
 have d:tmps[t]?.getD undef = P1 b:=by simpa using f
 simp[results,h,d,asAddr,(jgy g)]
theorem jan{dv mv rv:Value}{A la lo o last:Nat}{f:List Nat}{l cl:Bool}(k:w.heap[b]?=some (.cells (ql dv (jg A) (jg la) (jg lo) (jg o) rv (jg last) mv l cl) 79 (0,0)))(S:Jf w rv f)(T:f.length<1099511627776):Calls prog 14 #[P1 b] w λe w'=>∃ p c,e=.returned (.agg #[j9 last,j9 lo,j9 o,j9 A,.slice p f.length c,.bool l,.bool cl])/\w'.ownsRow w.heap.size 3 1 (.slice p f.length c) f.length (f.map jg)/\ja w w' N_:=by
 have M:=zK 1 k;have L:=zK 3 k;have J:=zK 4 k;have I:=zK 5 k;have H:=zK 6 k;have G:=zK 8 k;have F:=zK 9 k;simp[ql] at M L J I H G F;have d:=zO k;clear k;obtain⟨z,R⟩:∃ z,z=w.alloc (.cells #[aA 0,aA 0,aA 0,aA 0,S5,.bool false,.bool false] 53):=⟨_,rfl⟩;obtain⟨j,U⟩:∃ j,j=w.heap.size:=⟨_,rfl⟩;have g:¬b=j:=by omega
 have aw:¬j=b:=by omega
 clear d;have m:ja w z N_:=by grind [ja.alloc]
 have V:z.heap[j]?=some (.cells #[aA 0,aA 0,aA 0,aA 0,S5,.bool false,.bool false] 53 (0,0)):=by grind [jf]
 have X:Hid (∀ W,ja z W N_->Calls prog 38 #[rv] W λe w'=>∃ p c,e=.returned (.slice p f.length c)/\w'.ownsRow W.heap.size 3 1 (.slice p f.length c) f.length (f.map jg)/\ja W w' N_):=λW d=>ni W rv f ((S.same m).same d) T
 have kd:ja z z.drew N_:=ja.drew _ _;have M:=m.cell M id;have L:=m.cell L id;have J:=m.cell J id;have I:=m.cell I id;have H:=m.cell H id;have G:=m.cell G id;have F:=m.cell F id;have Z:=jb V;have Y:=jb U;have d:=jb R;obtain⟨E,D⟩:∃ E,E=f.length:=⟨_,rfl⟩;rw[<-D] at X ⊢;have a8:=jb D;clear V U R S T D;go_enter func14,ntmps14;go_wp2_with fail;rw[<-d.out,<-Y.out];go_region_held (λW=>W.cell? (B1 b 1)=some (jg A)/\W.cell? (B1 b 3)=some (jg lo)/\W.cell? (B1 b 4)=some (jg o)/\W.cell? (B1 b 5)=some rv/\W.cell? (B1 b 6)=some (jg last)/\W.cell? (B1 b 8)=some (.bool l)/\W.cell? (B1 b 9)=some (.bool cl)) (go_keep) (first|(go_at_call 38;refine(X.out _ kd).mono ?_;rintro e y ⟨N,O,rfl,C,n⟩;have M:=n.cell M id;have L:=n.cell L id;have J:=n.cell J id;have I:=n.cell I id;have H:=n.cell H id;have G:=n.cell G id;have F:=n.cell F id;have d:=n.same Z id;have z0:=zK 0 d;have g:=zK 1 d;have z2:=zK 2 d;have z3:=zK 3 d;have z4:=zK 4 d;have z5:=zK 5 d;have i:=zK 6 d;simp at z0 g z2 z3 z4 z5 i;have g:=zL 0 d;have g:=zL 1 d;have g:=zL 2 d;have g:=zL 3 d;have g:=zL 4 d;have g:=zL 5 d;have g:=zL 6 d;have a9:=jb d;clear d));obtain⟨d,B⟩:∃ x,x=y.setCell (A2 j) (aA (last:Int)):=⟨_,rfl⟩;have D:d.heap[j]?=some (.cells #[aA (last:Int),aA 0,aA 0,aA 0,S5,.bool false,.bool false] 53 (0,0)):=by rw[B];exact(jc a9 _).trans rfl
 have q:ja y d (λi=>i=j):=by grind [ja.setCell]
 obtain⟨g,v⟩:∃ x,x=d.setCell (B1 j 1) (aA (lo:Int)):=⟨_,rfl⟩;have F:g.heap[j]?=some (.cells #[aA (last:Int),aA (lo:Int),aA 0,aA 0,S5,.bool false,.bool false] 53 (0,0)):=by rw[v];exact(jc D _).trans rfl
 have r:ja y g (λi=>i=j):=by rw[v];exact q.set (p:=(B1 j 1)) rfl _
 obtain⟨d,u⟩:∃ x,x=g.setCell (B1 j 2) (aA (o:Int)):=⟨_,rfl⟩;have H:d.heap[j]?=some (.cells #[aA (last:Int),aA (lo:Int),aA (o:Int),aA 0,S5,.bool false,.bool false] 53 (0,0)):=by rw[u];exact(jc F _).trans rfl
 have m2:ja y d (λi=>i=j):=by rw[u];exact r.set (p:=(B1 j 2)) rfl _
 obtain⟨g,t⟩:∃ x,x=d.setCell (B1 j 3) (aA (A:Int)):=⟨_,rfl⟩;have J:g.heap[j]?=some (.cells #[aA (last:Int),aA (lo:Int),aA (o:Int),aA (A:Int),S5,.bool false,.bool false] 53 (0,0)):=by rw[t];exact(jc H _).trans rfl
 have q:ja y g (λi=>i=j):=by rw[t];exact m2.set (p:=(B1 j 3)) rfl _
 obtain⟨d,s⟩:∃ x,x=g.setCell (B1 j 4) (.slice N E O):=⟨_,rfl⟩;have I:d.heap[j]?=some (.cells #[aA (last:Int),aA (lo:Int),aA (o:Int),aA (A:Int),.slice N E O,.bool false,.bool false] 53 (0,0)):=by rw[s];exact(jc J _).trans rfl
 have g:ja y d (λi=>i=j):=by rw[s];exact q.set (p:=(B1 j 4)) rfl _
 obtain⟨x5,r⟩:∃ x,x=d.setCell (B1 j 5) (.bool l):=⟨_,rfl⟩;have G:x5.heap[j]?=some (.cells #[aA (last:Int),aA (lo:Int),aA (o:Int),aA (A:Int),.slice N E O,.bool l,.bool false] 53 (0,0)):=by rw[r];exact(jc I _).trans rfl
 have L:ja y x5 (λi=>i=j):=by rw[r];exact g.set (p:=(B1 j 5)) rfl _
 obtain⟨x6,q⟩:∃ x,x=x5.setCell (B1 j 6) (.bool cl):=⟨_,rfl⟩;have g:x6.heap[j]?=some (.cells #[aA (last:Int),aA (lo:Int),aA (o:Int),aA (A:Int),.slice N E O,.bool l,.bool cl] 53 (0,0)):=by rw[q];exact(jc G _).trans rfl
 have d:ja y x6 (λi=>i=j):=by rw[q];exact L.set (p:=(B1 j 6)) rfl _
 rw[<-B,<-v,<-u,<-t,<-s,<-r,<-q];have x:=jb g;clear D F H J I G g B v u t s r q;have g:=Y.out;have ay:j<z.heap.size:=zO Z;go_wp2;refine bodyPost_ret (De rfl rfl x) rfl ?_;refine⟨N,O,rfl,?_,((m.tt kd).tt n).trans d λi hi e=>by have q:i=j:=e;omega⟩;rw[a8.out] at C ⊢;refine qn (d.row C λg d e=>?_)<|zW m.size kd.size;have q:g=j:=e;have i:=(C.lt g d).1;have d:=kd.size;omega
end
section
section
variable {i nx:Nat} {sa sb:Rf.St} {ess:List (List Rf.Ch)}
end
def El(W:World)(T:Nat->Prop)(x:Value)(es:L1):Prop:=Chs W x es/\∀ g,x.ownBlock=some g->¬T g/\g<W.heap.size
theorem El.step{W W':World}{T U T':Nat->Prop}{x:Value}{es:L1}(h:El W T x es)(k:ja W W' U)(b:∀ i,U i->T i)(d:∀ i,T' i->T i\/W.heap.size<=i):El W' T' x es:=by refine⟨h.1.keep k λ_ p n c e c=>(h.2 p.block<|by rw[e];rfl).1<|b _ c,λg c=>⟨λt=>?_,?_⟩⟩;obtain t|t:=d g t;exact(h.2 g c).1 t;have:=(h.2 g c).2;omega;have:=(h.2 g c).2;have:=k.size;omega
structure Wr(w W:World)(T:Nat->Prop)(v:Value)(ess:List (List Rf.Ch)):Prop where
 row:∃ xs,W.ownsRow w.heap.size 68 1 v ess.length xs/\∀ i (h:i<ess.length),∃ x,xs[i]?=some x/\El W T x ess[i]/\∀ g,v.ownBlock=some g->x.ownBlock≠some g
 nv:∀ g,v.ownBlock=some g->¬T g
theorem Wr.first(w W:World)(T:Nat->Prop):Wr w W T S5 []:=⟨⟨[],zU _ _ _ _,λi h=>by cases h⟩,λg h=>by cases h⟩
theorem Wr.step{w W W':World}{T U T':Nat->Prop}{v:Value}{b:List L1}(h:Wr w W T v b)(k:ja W W' U)(c:∀ i,U i->T i)(d:∀ i,T' i->T i\/W.heap.size<=i):Wr w W' T' v b:=by obtain⟨⟨xs,j,n⟩,f⟩:=h;refine⟨⟨xs,k.row j λg o l=>f g o<|c g l,λi hi=>?_⟩,λg o t=>?_⟩;obtain⟨x,e,l,m⟩:=n i hi;exact⟨x,e,l.step k c d,m⟩;obtain t|t:=d g t;exact f g o t;have:=(j.lt g o).2;omega
theorem Wr.snoc{w W W':World}{T:Nat->Prop}{v v' x:Value}{b:List L1}{es:L1}{xs:List Value}(h:Wr w W T v b)(d:W.ownsRow w.heap.size 68 1 v b.length xs)(u:El W T x es)(r:∀ g,v.ownBlock=some g->x.ownBlock≠some g)(o:∀ i,T i->i<W.heap.size)(k:ja W W' (λj=>v.ownBlock=some j))(z:W'.ownsRow w.heap.size 68 1 v' (b.length+1) (xs++[x]))(m:∀ g,v'.ownBlock=some g->v.ownBlock=some g\/W.heap.size<=g)(s:∀ i (h:i<b.length),∃ y,xs[i]?=some y/\El W T y b[i]/\∀ g,v.ownBlock=some g->y.ownBlock≠some g):Wr w W' T v' (b++[es]):=by
 have up:∀ y l,El W T y l->(∀ g,v.ownBlock=some g->y.ownBlock≠some g)->El W' T y l/\∀ g,v'.ownBlock=some g->y.ownBlock≠some g:=λy l f l=>by refine⟨⟨f.1.keep k λ_ p n c e c=>l _ c<|by rw[e];rfl,λg c=>⟨(f.2 g c).1,zB (f.2 g c).2 k.size⟩⟩,λg c e=>?_⟩;obtain t|t:=m g c;exact l g t e;have:=(f.2 g e).2;omega
 have q:xs.length=b.length:=zA d.1;refine⟨⟨xs++[x],zG,λi hi=>?_⟩,λg c t=>?_⟩
 .grind
 obtain f|f:=m g c;exact h.nv g f t;have:=o g t;omega
section
variable {E:Nat->Addr} {B:Nat} {w W W':World} {ka kb da ba db bb:Nat} {Fa Fb:Nat->Prop} {sa sb sa' sb':Rf.St} {k k':Nat} {wv:Value} {ess:List (List Rf.Ch)}
end
end
