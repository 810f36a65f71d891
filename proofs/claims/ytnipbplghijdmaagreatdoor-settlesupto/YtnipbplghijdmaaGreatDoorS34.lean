/-
  S: LaidA.
-/
import Derived.Test.YtnipbplghijdmaaGreatDoorRows
import Derived.Stop.LaidErr
import Derived.Test.YtnipbplghijdmaaGreatDoorS15
set_option linter.unusedVariables false
set_option linter.unusedSimpArgs false
namespace Go.Proofs.YtnipbplghijdmaaGreatDoor
open RowKit Go.ChangeShapes WideShapes Go.Proofs.Tryz
variable {W:World}
abbrev Gc:List (String×DataW Unit):=Rows.partsRow.laid
theorem Xx{P:Program}{n nm:String}{text:List UInt8}{r:List (String×DataW Unit)}{g:Nat}{D tp l ts:TypeId}{E:Array (String×TypeId)}{f:Field}(h:laidMet P ((n,.iface nm (.ptr (.agg [.lit (.string text)])))::r) W)(J:P.globalNamed n=some g)(G:(P.globals[g]?).map (·.type)=some D)(hi:P.underlying D=some (.interface E))(k:∀ u,P.typeName? 3 u=some nm->u=tp)(I:P.underlying tp=some (.pointer l))(L:P.underlying l=some (.struct #[f]))(y:f.type=ts)(z:f.offset=0)(H:P.underlying ts=some .string)(M:P.cellsOf l=1)(B:P.cellsOf ts=1) :
 ∃(a:Addr) (s:ByteArray),W.cell? ⟨g,0,none⟩=some (.iface tp (.pointer (some a)))/\W.cell? a=some (.string s)/\s.data.toList=text/\a.spot=none/\∃ c t,W.heap[a.block]?=some (.cells c t (0,0)):=by
 obtain⟨ps,⟨U,R,C,V,T,S,d,p,i,A,_,N⟩,_,b⟩:=h;obtain rfl:=Option.some.inj (J.symm.trans d);obtain rfl:=Option.some.inj (G.symm.trans p);subst N;obtain⟨F⟩:=C
 have o:∀ u v,F=[.iface u v]->Value.okWide P W .any 0 u v:=fun u v e=>by
  subst e;exact(b g 0 (by simp[MemPlace.row])).2 u v (by simpa using World.var?_cell d i 0)
 obtain⟨m,s0,rfl,j,q,O,x⟩:=errorString_of_trod hi k I L y z H M B A o;refine⟨m,s0,by simpa using World.var?_cell d i 0,j,q,World.cell?_spot j,(b m.block m.off ?_).1⟩;rw[x];simp[MemPlace.row]
theorem Uo: "*"++ "errors.errorString"= "*errors.errorString":=by decide
theorem ug(u:TypeId)(h:prog.typeName? 3 u=some "*errors.errorString"):u=371 :=
 typeName_ptr_named (nm:= "errors.errorString") (by rw[Uo];kernel_rfl) (by kernel_rfl) (by decide) u (by rw[Uo];exact h)
def Zd:DataW Unit->List UInt8
 | .iface _ (.ptr (.agg [.lit (.string t)]))=>t
 | _=>[]
def Aq(g:Nat):List UInt8:=if g=7 then Zd Rows.laid_sediment_fault_ErrShort else if g=8 then Zd Rows.laid_sediment_fault_ErrSum else if g=4 then Zd Rows.laid_sediment_fault_ErrValue
 else if g=3 then Zd Rows.laid_sediment_fault_ErrTail else if g=2 then Zd Rows.laid_sediment_fault_ErrMissing else if g=1 then Zd Rows.laid_sediment_fault_ErrDisk else Zd Rows.laid_sediment_fault_ErrFull
theorem Cl:∀ g∈yt,∀ k∈yt,Aq g=Aq k->g=k:=by decide
theorem bu:prog.cellsOf 393=1:=by kernel_rfl
theorem bc:prog.cellsOf 9=1:=by kernel_rfl
def Mu(W:World)(g:Nat)(a:Addr):Prop :=
 ∃ s:ByteArray,W.cell? ⟨g,0,none⟩=some (.iface 371 (.pointer (some a)))/\W.cell? a=some (.string s)/\s.data.toList=Aq g/\a.spot=none/\∃ c t,W.heap[a.block]?=some (.cells c t (0,0))
theorem jaw(h:laidMet prog Gc W):∀ g∈yt,∃ a,Mu W g a:=by
 have k:=h.tail.tail.tail;have j:=k.tail;have i:=j.tail;have f:=i.tail;have d:=f.tail;have c:=d.tail;have l:=c.tail;intro g b;simp only[yt,zH,List.not_mem_nil,or_false] at b;rcases b with rfl|rfl|rfl|rfl|rfl|rfl|rfl
 ·obtain⟨a,s,r⟩:=Xx (g:=7) (tp:=371) k (by kernel_rfl) (by kernel_rfl) underlying128 ug underlying371 underlying393 rfl rfl underlying9 bu bc
  exact⟨a,s,r⟩
 ·obtain⟨a,s,r⟩:=Xx (g:=8) (tp:=371) j (by kernel_rfl) (by kernel_rfl) underlying128 ug underlying371 underlying393 rfl rfl underlying9 bu bc
  exact⟨a,s,r⟩
 ·obtain⟨a,s,r⟩:=Xx (g:=4) (tp:=371) i (by kernel_rfl) (by kernel_rfl) underlying128 ug underlying371 underlying393 rfl rfl underlying9 bu bc
  exact⟨a,s,r⟩
 ·obtain⟨a,s,r⟩:=Xx (g:=3) (tp:=371) f (by kernel_rfl) (by kernel_rfl) underlying128 ug underlying371 underlying393 rfl rfl underlying9 bu bc
  exact⟨a,s,r⟩
 ·obtain⟨a,s,r⟩:=Xx (g:=2) (tp:=371) d (by kernel_rfl) (by kernel_rfl) underlying128 ug underlying371 underlying393 rfl rfl underlying9 bu bc
  exact⟨a,s,r⟩
 ·obtain⟨a,s,r⟩:=Xx (g:=1) (tp:=371) c (by kernel_rfl) (by kernel_rfl) underlying128 ug underlying371 underlying393 rfl rfl underlying9 bu bc
  exact⟨a,s,r⟩
 ·obtain⟨a,s,r⟩:=Xx (g:=0) (tp:=371) l (by kernel_rfl) (by kernel_rfl) underlying128 ug underlying371 underlying393 rfl rfl underlying9 bu bc
  exact⟨a,s,r⟩
theorem Oi{a:Addr}{v:Value}(h:W.cell? a=some v):a.block<W.heap.size:=by
 rcases ZJ a.block W.heap.size with b|b
 ·exact b
 ·simp[World.cell?,xN b] at h
theorem R6:Rows.laid_internal_strconv_uint64pow10 (H:=Unit)=Lib.tabData .u64 Lib.pow10Tab:=by kernel_rfl
theorem Ph(h:laidMet prog Gc W):∃ E,Env E W.heap.size W:=by
 have u:=jaw h
 have key:∀ g,∃ a,g∈yt->Mu W g a:=fun g=>by
  rcases Classical.em (g∈yt)with b|b
  ·obtain⟨a,v⟩:=u g b
   exact⟨a,fun _=>v⟩
  ·exact⟨default,fun h=>absurd h b⟩
 have x:∀ g∈yt,Mu W g (Classical.choose (key g)):=fun g b=>Classical.choose_spec (key g) b;generalize he:(fun g=>Classical.choose (key g))=E;have c:∀ g∈yt,Mu W g (E g):=fun g b=>by rw[<-he];exact x g b
 have d:=h.tail.tail;have i:Lib.TabIs prog W "internal/strconv.uint64pow10" .u64 Lib.pow10Tab:=Lib.tabIs_of_head (g:=5) (by kernel_rfl) (by kernel_rfl) underlying338 underlying172 (by kernel_rfl) (by kernel_rfl) (by rw[<-R6];exact d);have b:prog.globalNamed "internal/strconv.uint64pow10"=some 5:=by kernel_rfl
 have f:∃ t l,W.heap[5]?=some (.cells (Lib.pow10Tab.map fun z=>Value.int .u64 z).toArray t l):=by
  unfold Lib.TabIs World.var? at i;rw[b] at i;simp only[Option.bind_some] at i
  split at i
  ·rename_i cs t l m
   simp only[Option.some.injEq] at i;exact⟨t,l,by rw[m,i]⟩
  ·cases i
 refine⟨E,⟨?_,?_,?_,?_,?_,?_⟩,f,?_⟩
 ·intro g b
  obtain⟨s,j,_⟩:=c g b;exact j
 ·intro g b
  obtain⟨s,j,_⟩:=c g b;exact Oi j
 ·intro g b
  obtain⟨s,j,d,n,r,y⟩:=c g b;exact y
 ·intro g b
  obtain⟨s,j,d,_⟩:=c g b;exact Oi d
 ·intro g b
  obtain⟨s,j,d,n,r,_⟩:=c g b;exact r
 ·intro g b k q e
  obtain⟨s,_,d,n,_⟩:=c g b;obtain⟨A,_,p,o,_⟩:=c k q;rw[e,p] at d;cases d;exact Cl g b k q (n.symm.trans o)
 ·obtain⟨t,l,m⟩:=f
  exact(Array.getElem?_eq_some_iff.1 m).1
def G9:DataW Unit->Array Value
 | .agg ds=>(ds.map fun|.lit (.int k n)=>Value.int k n|_=>Value.nilIface).toArray
 | _=>#[]
def bh(d:DataW Unit):Obj:= .cells #[.string ⟨(Zd d).toArray⟩] 393
def Ba (P : Program) (os : Os) : World :=
 let N:=(World.settled P os).heap.size
 let w0:=World.holding P os ⟨#[bh Rows.laid_sediment_fault_ErrShort,bh Rows.laid_sediment_fault_ErrSum,bh Rows.laid_sediment_fault_ErrValue,bh Rows.laid_sediment_fault_ErrTail,bh Rows.laid_sediment_fault_ErrMissing,
  bh Rows.laid_sediment_fault_ErrDisk,bh Rows.laid_sediment_fault_ErrFull],#[],[]⟩
 let put (h:Array Obj) (g:Nat) (cs:Array Value):Array Obj:=h.modify g fun
  | .cells _ t frozen=> .cells cs t frozen
  | o=>o
 let Qh (h:Array Obj) (g k:Nat):Array Obj:=put h g #[.iface 371 (.pointer (some ⟨N+k,0,none⟩))]
 let h0:=put w0.heap 9 (G9 Rows.laid_math_bits_deBruijn32tab)
 let h1:=put h0 10 (G9 Rows.laid_math_bits_deBruijn64tab)
 let h2:=put h1 5 (G9 Rows.laid_internal_strconv_uint64pow10)
 { w0 with heap:=Qh (Qh (Qh (Qh (Qh (Qh (Qh h2 7 0) 8 1) 4 2) 3 3) 2 4) 1 5) 0 6 }
end Go.Proofs.YtnipbplghijdmaaGreatDoor
