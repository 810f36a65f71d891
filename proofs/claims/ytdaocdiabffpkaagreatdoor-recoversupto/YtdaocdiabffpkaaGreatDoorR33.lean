/-
-/
import Derived.Test.YtdaocdiabffpkaaGreatDoorRows
import Derived.Stop.LaidErr
import Derived.Test.YtdaocdiabffpkaaGreatDoorR15
set_option linter.all false
namespace Go.Proofs.YtdaocdiabffpkaaGreatDoor
open RowKit Go.ChangeShapes WideShapes Go.Proofs.Tryz
variable {W:World}
abbrev M7:List (String×DataW Unit):=Rows.recoversRow.laid
theorem Zo{P:Program}{n nm:String}{text:By}{r:List (String×DataW Unit)}{g:Nat}{B tp l ts:TypeId}{C:Array (String×TypeId)}{f:Field}(h:laidMet P ((n,.iface nm (.ptr (.agg [.lit (.string text)])))::r) W)(G:P.globalNamed n=some g)(D:(P.globals[g]?).map (·.type)=some B)(hi:P.underlying B=some (.interface C))(k:∀ u,P.typeName? 3 u=some nm->u=tp)(F:P.underlying tp=some (.pointer l))(H:P.underlying l=some (.struct #[f]))(q:f.type=ts)(x:f.offset=0)(E:P.underlying ts=some .string)(I:P.cellsOf l=1)(z:P.cellsOf ts=1):∃(a:Addr) (s:ByteArray),W.cell? (A2 g)=some (.iface tp (.pointer (some a)))/\W.cell? a=some (.string s)/\s.data.toList=text/\a.spot=none/\∃ c t,W.heap[a.block]?=some (.cells c t (0,0)):=by obtain⟨ps,⟨g0,t0,A,R,N,M,d,m,i,y,_,J⟩,_,b⟩:=h;obtain rfl:=Option.some.inj<|G.symm.trans d;obtain rfl:=Option.some.inj<|D.symm.trans m;subst J;obtain⟨O⟩:=A;obtain⟨a0,s0,rfl,j,o,L,p⟩:=errorString_of_trod hi k F H q x E I z y (λu v e=>by subst e;exact(b g 0<|by simp[MemPlace.row]).2 u v (by simpa using World.var?_cell d i 0));refine⟨a0,s0,by simpa using World.var?_cell d i 0,j,o,World.cell?_spot j,(b a0.block a0.off ?_).1⟩;rw[p];simp[MemPlace.row]
theorem jfo: "*"++ "errors.errorString"= "*errors.errorString":=by decide
theorem Cn(u:TypeId)(h:prog.typeName? 3 u=some "*errors.errorString"):u=344:=typeName_ptr_named (nm:= "errors.errorString") (by rw[jfo];kernel_rfl) zH zE u (by rw[jfo];exact h)
def ed:DataW Unit->List UInt8
 | .iface _ (.ptr (.agg [.lit (.string t)]))=>t
 | _=>[]
def Ff(g:Nat):By:=if g=5 then ed Rows.laid_sediment_fault_ErrShort else if g=6 then ed Rows.laid_sediment_fault_ErrSum else if g=4 then ed Rows.laid_sediment_fault_ErrValue
 else if g=3 then ed Rows.laid_sediment_fault_ErrTail else if g=1 then ed Rows.laid_sediment_fault_ErrMissing else if g=0 then ed Rows.laid_sediment_fault_ErrDisk else ed Rows.laid_sediment_fault_ErrFull
theorem Hy:∀ g∈zj,∀ k∈zj,Ff g=Ff k->g=k:=by decide
theorem iz:prog.cellsOf 366=1:=by kernel_rfl
theorem ib:prog.cellsOf 9=1:=by kernel_rfl
def Vb(W:World)(g:Nat)(a:Addr):Prop :=
 ∃ s:ByteArray,W.cell? (A2 g)=some (.iface 344 (.pointer (some a)))/\W.cell? a=some (.string s)/\s.data.toList=Ff g/\a.spot=none/\∃ c t,W.heap[a.block]?=some (.cells c t (0,0))
theorem jig(h:laidMet prog M7 W):∀ g∈zj,∃ a,Vb W g a:=by
 have k:=h.tail.tail.tail;have j:=k.tail;have i:=j.tail;have f:=i.tail;have d:=f.tail;have c:=d.tail;have l:=c.tail;intro g b;simp only[zj,xN,List.not_mem_nil,or_false] at b;obtain rfl|rfl|rfl|rfl|rfl|rfl|rfl:=b
 .obtain⟨a,s,r⟩:=Zo (g:=5) (tp:=344) k zH zH underlying81 Cn underlying344 underlying366 rfl rfl underlying9 iz ib;exact⟨a,s,r⟩
 .obtain⟨a,s,r⟩:=Zo (g:=6) (tp:=344) j zH zH underlying81 Cn underlying344 underlying366 rfl rfl underlying9 iz ib;exact⟨a,s,r⟩
 .obtain⟨a,s,r⟩:=Zo (g:=4) (tp:=344) i zH zH underlying81 Cn underlying344 underlying366 rfl rfl underlying9 iz ib;exact⟨a,s,r⟩
 .obtain⟨a,s,r⟩:=Zo (g:=3) (tp:=344) f zH zH underlying81 Cn underlying344 underlying366 rfl rfl underlying9 iz ib;exact⟨a,s,r⟩
 .obtain⟨a,s,r⟩:=Zo (g:=1) (tp:=344) d zH zH underlying81 Cn underlying344 underlying366 rfl rfl underlying9 iz ib;exact⟨a,s,r⟩
 .obtain⟨a,s,r⟩:=Zo (g:=0) (tp:=344) c zH zH underlying81 Cn underlying344 underlying366 rfl rfl underlying9 iz ib;exact⟨a,s,r⟩
 .obtain⟨a,s,r⟩:=Zo (g:=2) (tp:=344) l zH zH underlying81 Cn underlying344 underlying366 rfl rfl underlying9 iz ib;exact⟨a,s,r⟩
theorem jal{a:Addr}{v:Value}(h:W.cell? a=some v):a.block<W.heap.size:=by grind [World.cell?]
theorem jc4:Rows.laid_internal_strconv_uint64pow10 (H:=Unit)=Lib.tabData .u64 Lib.pow10Tab:=by kernel_rfl
theorem jbh(h:laidMet prog M7 W):∃ E,Env E W.heap.size W:=by
 have u:=jig h;have key:∀ g,∃ a,g∈zj->Vb W g a:=λg=>by obtain b|b:=Classical.em (g∈zj);simp_all;simp_all
 have n:∀ g∈zj,Vb W g (Classical.choose<|key g):=λg b=>Classical.choose_spec (key g) b
 generalize he:(λg=>Classical.choose<|key g)=E;have c:∀ g∈zj,Vb W g (E g):=λg b=>by rw[<-he];exact n g b
 have d:=h.tail.tail;have r:Lib.TabIs prog W "internal/strconv.uint64pow10" .u64 Lib.pow10Tab:=Lib.tabIs_of_head (g:=7) zH zH underlying298 underlying133 zH zH (by rw[<-jc4];exact d);have b:prog.globalNamed "internal/strconv.uint64pow10"=some 7:=zH;have i:∃ t f,W.heap[7]?=some (.cells (Lib.pow10Tab.map λz=>Value.int .u64 z).toArray t f):=by grind [Lib.TabIs,World.var?]
 refine⟨E,⟨?_,?_,?_,?_,?_,?_⟩,i,?_⟩;intro g b;obtain⟨s,f,_⟩:=c g b;exact f;intro g b;obtain⟨s,f,_⟩:=c g b;exact jal f;intro g b;obtain⟨s,f,d,l,j,o⟩:=c g b;exact o;intro g b;obtain⟨s,f,d,_⟩:=c g b;exact jal d;intro g b;obtain⟨s,f,d,l,j,_⟩:=c g b;exact j;intro g b k m e;obtain⟨s,_,d,l,_⟩:=c g b;obtain⟨s',_,q,p,_⟩:=c k m;grind [Hy];grind
def Od:DataW Unit->Array Value
 | .agg ds=>(ds.map fun|.lit (.int k n)=>Value.int k n|_=>Value.nilIface).toArray
 | _=>#[]
def ig(d:DataW Unit):Obj:=.cells #[.string ⟨(ed d).toArray⟩] 366
def F7(P:Program)(os:Os):World :=
 let N:=(World.settled P os).heap.size
 let w0:=World.holding P os ⟨#[ig Rows.laid_sediment_fault_ErrShort,ig Rows.laid_sediment_fault_ErrSum,ig Rows.laid_sediment_fault_ErrValue,ig Rows.laid_sediment_fault_ErrTail,ig Rows.laid_sediment_fault_ErrMissing,
  ig Rows.laid_sediment_fault_ErrDisk,ig Rows.laid_sediment_fault_ErrFull],#[],[]⟩
 let put (h:Array Obj) (g:Nat) (cs:Array Value):Array Obj:=h.modify g fun
  | .cells _ t frozen=>.cells cs t frozen
  | o=>o
 let Jk (h:Array Obj) (g k:Nat):Array Obj:=put h g #[.iface 344 (P1 (N+k))]
 let h0:=put w0.heap 9 (Od Rows.laid_math_bits_deBruijn32tab)
 let h1:=put h0 10 (Od Rows.laid_math_bits_deBruijn64tab)
 let h2:=put h1 7 (Od Rows.laid_internal_strconv_uint64pow10)
 { w0 with heap:=Jk (Jk (Jk (Jk (Jk (Jk (Jk h2 5 0) 6 1) 4 2) 3 3) 1 4) 0 5) 2 6 }
