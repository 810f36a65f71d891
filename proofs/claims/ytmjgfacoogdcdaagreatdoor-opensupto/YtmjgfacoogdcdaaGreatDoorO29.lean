/-
-/
import Derived.Test.YtmjgfacoogdcdaaGreatDoorRows
import Derived.Stop.LaidErr
import Derived.Test.YtmjgfacoogdcdaaGreatDoorO15
set_option linter.all false
namespace Go.Proofs.YtmjgfacoogdcdaaGreatDoor
open RowKit Go.ChangeShapes WideShapes Go.Proofs.Tryz
variable {W:World}
abbrev Ko:List (String×DataW Unit):=Rows.opensRow.laid
theorem Zd{P:Program}{n nm:String}{text:By}{r:List (String×DataW Unit)}{g:Nat}{C tp l ts:TypeId}{D:Array (String×TypeId)}{f:Field}(h:laidMet P ((n,.iface nm (.ptr (.agg [.lit (.string text)])))::r) W)(I:P.globalNamed n=some g)(F:(P.globals[g]?).map (·.type)=some C)(hi:P.underlying C=some (.interface D))(k:∀ u,P.typeName? 3 u=some nm->u=tp)(H:P.underlying tp=some (.pointer l))(J:P.underlying l=some (.struct #[f]))(x:f.type=ts)(y:f.offset=0)(G:P.underlying ts=some .string)(L:P.cellsOf l=1)(A:P.cellsOf ts=1):∃(a:Addr) (s:ByteArray),W.cell? (aC g)=some (.iface tp (.pointer (some a)))/\W.cell? a=some (.string s)/\s.data.toList=text/\a.spot=none/\∃ c t,W.heap[a.block]?=some (.cells c t (0,0)):=by
 obtain⟨ps,⟨S,t0,B,T,R,O,d,o,i,z,_,M⟩,_,b⟩:=h;obtain rfl:=Option.some.inj<|I.symm.trans d;obtain rfl:=Option.some.inj<|F.symm.trans o;subst M;obtain⟨E⟩:=B;have m:∀ u v,E=[.iface u v]->Value.okWide P W .any 0 u v:=λu v e=>by subst e;exact(b g 0<|by simp[MemPlace.row]).2 u v (by simpa using World.var?_cell d i 0)
 obtain⟨a0,s0,rfl,j,p,N,q⟩:=errorString_of_trod hi k H J x y G L A z m;refine⟨a0,s0,by simpa using World.var?_cell d i 0,j,p,World.cell?_spot j,(b a0.block a0.off ?_).1⟩;rw[q];simp[MemPlace.row]
theorem jce: "*"++ "errors.errorString"= "*errors.errorString":=by decide
theorem Bu(u:TypeId)(h:prog.typeName? 3 u=some "*errors.errorString"):u=348:=typeName_ptr_named (nm:= "errors.errorString") (by rw[jce];kernel_rfl) zH zE u (by rw[jce];exact h)
def cy:DataW Unit->List UInt8
 | .iface _ (.ptr (.agg [.lit (.string t)]))=>t
 | _=>[]
def Eb(g:Nat):By:=if g=5 then cy Rows.laid_sediment_fault_ErrShort else if g=6 then cy Rows.laid_sediment_fault_ErrSum else if g=4 then cy Rows.laid_sediment_fault_ErrValue
 else if g=3 then cy Rows.laid_sediment_fault_ErrTail else if g=1 then cy Rows.laid_sediment_fault_ErrMissing else if g=0 then cy Rows.laid_sediment_fault_ErrDisk else cy Rows.laid_sediment_fault_ErrFull
theorem Gu:∀ g∈ze,∀ k∈ze,Eb g=Eb k->g=k:=by decide
theorem ij:prog.cellsOf 370=1:=by kernel_rfl
theorem gm:prog.cellsOf 9=1:=by kernel_rfl
def Ru(W:World)(g:Nat)(a:Addr):Prop :=
 ∃ s:ByteArray,W.cell? (aC g)=some (.iface 348 (.pointer (some a)))/\W.cell? a=some (.string s)/\s.data.toList=Eb g/\a.spot=none/\∃ c t,W.heap[a.block]?=some (.cells c t (0,0))
theorem jfa(h:laidMet prog Ko W):∀ g∈ze,∃ a,Ru W g a:=by
 have k:=h.tail.tail.tail;have j:=k.tail;have i:=j.tail;have f:=i.tail;have d:=f.tail;have c:=d.tail;have l:=c.tail;intro g b;simp only[ze,xB,List.not_mem_nil,or_false] at b;obtain rfl|rfl|rfl|rfl|rfl|rfl|rfl:=b
 .obtain⟨a,s,r⟩:=Zd (g:=5) (tp:=348) k zH zH underlying88 Bu underlying348 underlying370 rfl rfl underlying9 ij gm;exact⟨a,s,r⟩
 .obtain⟨a,s,r⟩:=Zd (g:=6) (tp:=348) j zH zH underlying88 Bu underlying348 underlying370 rfl rfl underlying9 ij gm;exact⟨a,s,r⟩
 .obtain⟨a,s,r⟩:=Zd (g:=4) (tp:=348) i zH zH underlying88 Bu underlying348 underlying370 rfl rfl underlying9 ij gm;exact⟨a,s,r⟩
 .obtain⟨a,s,r⟩:=Zd (g:=3) (tp:=348) f zH zH underlying88 Bu underlying348 underlying370 rfl rfl underlying9 ij gm;exact⟨a,s,r⟩
 .obtain⟨a,s,r⟩:=Zd (g:=1) (tp:=348) d zH zH underlying88 Bu underlying348 underlying370 rfl rfl underlying9 ij gm;exact⟨a,s,r⟩
 .obtain⟨a,s,r⟩:=Zd (g:=0) (tp:=348) c zH zH underlying88 Bu underlying348 underlying370 rfl rfl underlying9 ij gm;exact⟨a,s,r⟩
 .obtain⟨a,s,r⟩:=Zd (g:=2) (tp:=348) l zH zH underlying88 Bu underlying348 underlying370 rfl rfl underlying9 ij gm;exact⟨a,s,r⟩
theorem Uf{a:Addr}{v:Value}(h:W.cell? a=some v):a.block<W.heap.size:=by grind [World.cell?]
theorem Wv:Rows.laid_internal_strconv_uint64pow10 (H:=Unit)=Lib.tabData .u64 Lib.pow10Tab:=by kernel_rfl
theorem Va(h:laidMet prog Ko W):∃ E,Env E W.heap.size W:=by
 have v:=jfa h;have key:∀ g,∃ a,g∈ze->Ru W g a:=λg=>by obtain b|b:=Classical.em (g∈ze);simp_all;simp_all
 have n:∀ g∈ze,Ru W g (Classical.choose<|key g):=λg b=>Classical.choose_spec (key g) b
 generalize he:(λg=>Classical.choose<|key g)=E;have c:∀ g∈ze,Ru W g (E g):=λg b=>by rw[<-he];exact n g b
 have d:=h.tail.tail;have u:Lib.TabIs prog W "internal/strconv.uint64pow10" .u64 Lib.pow10Tab:=Lib.tabIs_of_head (g:=7) zH zH underlying302 underlying135 zH zH (by rw[<-Wv];exact d);have b:prog.globalNamed "internal/strconv.uint64pow10"=some 7:=zH;have i:∃ t fz,W.heap[7]?=some (.cells (Lib.pow10Tab.map λz=>Value.int .u64 z).toArray t fz):=by grind [Lib.TabIs,World.var?]
 refine⟨E,⟨?_,?_,?_,?_,?_,?_⟩,i,?_⟩;intro g b;obtain⟨s,f,_⟩:=c g b;exact f;intro g b;obtain⟨s,f,_⟩:=c g b;exact Uf f;intro g b;obtain⟨s,f,d,l,j,o⟩:=c g b;exact o;intro g b;obtain⟨s,f,d,_⟩:=c g b;exact Uf d;intro g b;obtain⟨s,f,d,l,j,_⟩:=c g b;exact j;intro g b k m e;obtain⟨s,_,d,l,_⟩:=c g b;obtain⟨r,_,q,p,_⟩:=c k m;grind [Gu];grind
def Lp:DataW Unit->Array Value
 | .agg ds=>(ds.map fun|.lit (.int k n)=>Value.int k n|_=>Value.nilIface).toArray
 | _=>#[]
def gu(d:DataW Unit):Obj:=.cells #[.string ⟨(cy d).toArray⟩] 370
def Er(P:Program)(os:Os):World :=
 let N:=(World.settled P os).heap.size
 let w0:=World.holding P os ⟨#[gu Rows.laid_sediment_fault_ErrShort,gu Rows.laid_sediment_fault_ErrSum,gu Rows.laid_sediment_fault_ErrValue,gu Rows.laid_sediment_fault_ErrTail,gu Rows.laid_sediment_fault_ErrMissing,
  gu Rows.laid_sediment_fault_ErrDisk,gu Rows.laid_sediment_fault_ErrFull],#[],[]⟩
 let put (h:Array Obj) (g:Nat) (cs:Array Value):Array Obj:=h.modify g fun
  | .cells _ t frozen=>.cells cs t frozen
  | o=>o
 let Qo (h:Array Obj) (g k:Nat):Array Obj:=put h g #[.iface 348 (aA (N+k))]
 let h0:=put w0.heap 9 (Lp Rows.laid_math_bits_deBruijn32tab)
 let h1:=put h0 10 (Lp Rows.laid_math_bits_deBruijn64tab)
 let h2:=put h1 7 (Lp Rows.laid_internal_strconv_uint64pow10)
 { w0 with heap:=Qo (Qo (Qo (Qo (Qo (Qo (Qo h2 5 0) 6 1) 4 2) 3 3) 1 4) 0 5) 2 6 }
