/-
  V: LaidA.
-/
import Derived.Test.YtnipbplghijdmaaGreatDoorRows
import Derived.Stop.LaidErr
import Derived.Test.YtnipbplghijdmaaGreatDoorV15
set_option linter.unusedVariables false
set_option linter.unusedSimpArgs false
namespace Go.Proofs.YtnipbplghijdmaaGreatDoor
open RowKit Go.ChangeShapes WideShapes Go.Proofs.Tryz
variable {W:World}
abbrev Hp:List (String×DataW Unit):=Rows.partsRow.laid
theorem Yn{P:Program}{n nm:String}{text:List UInt8}{r:List (String×DataW Unit)}{g:Nat}{D tp l ts:TypeId}{E:Array (String×TypeId)}{f:Field}(h:laidMet P ((n,.iface nm (.ptr (.agg [.lit (.string text)])))::r) W)(L:P.globalNamed n=some g)(G:(P.globals[g]?).map (·.type)=some D)(J:P.underlying D=some (.interface E))(k:∀ u,P.typeName? 3 u=some nm->u=tp)(I:P.underlying tp=some (.pointer l))(M:P.underlying l=some (.struct #[f]))(y:f.type=ts)(z:f.offset=0)(H:P.underlying ts=some .string)(N:P.cellsOf l=1)(B:P.cellsOf ts=1) :
 ∃(a:Addr) (s:ByteArray),W.cell? ⟨g,0,none⟩=some (.iface tp (.pointer (some a)))/\W.cell? a=some (.string s)/\s.data.toList=text/\a.spot=none/\∃ c t,W.heap[a.block]?=some (.cells c t (0,0)):=by
 obtain⟨ps,⟨V,S,C,X,U,T,d,p,i,A,_,O⟩,_,b⟩:=h;obtain rfl:=Option.some.inj (L.symm.trans d);obtain rfl:=Option.some.inj (G.symm.trans p);subst O;obtain⟨F⟩:=C
 have o:∀ u v,F=[.iface u v]->Value.okWide P W .any 0 u v:=fun u v e=>by
  subst e;exact(b g 0 (by simp[MemPlace.row])).2 u v (by simpa using World.var?_cell d i 0)
 obtain⟨m,s0,rfl,j,q,R,x⟩:=errorString_of_trod J k I M y z H N B A o;refine⟨m,s0,by simpa using World.var?_cell d i 0,j,q,World.cell?_spot j,(b m.block m.off ?_).1⟩;rw[x];simp[MemPlace.row]
theorem Wt: "*"++ "errors.errorString"= "*errors.errorString":=by decide
theorem vu(u:TypeId)(h:prog.typeName? 3 u=some "*errors.errorString"):u=371 :=
 typeName_ptr_named (nm:= "errors.errorString") (by rw[Wt];kernel_rfl) (by kernel_rfl) (by decide) u (by rw[Wt];exact h)
def ar:DataW Unit->List UInt8
 | .iface _ (.ptr (.agg [.lit (.string t)]))=>t
 | _=>[]
def Bi(g:Nat):List UInt8:=if g=7 then ar Rows.laid_sediment_fault_ErrShort else if g=8 then ar Rows.laid_sediment_fault_ErrSum else if g=4 then ar Rows.laid_sediment_fault_ErrValue
 else if g=3 then ar Rows.laid_sediment_fault_ErrTail else if g=2 then ar Rows.laid_sediment_fault_ErrMissing else if g=1 then ar Rows.laid_sediment_fault_ErrDisk else ar Rows.laid_sediment_fault_ErrFull
theorem Ea:∀ g∈y8,∀ k∈y8,Bi g=Bi k->g=k:=by decide
theorem fc:prog.cellsOf 393=1:=by kernel_rfl
theorem dr:prog.cellsOf 9=1:=by kernel_rfl
def Oi(W:World)(g:Nat)(a:Addr):Prop :=
 ∃ s:ByteArray,W.cell? ⟨g,0,none⟩=some (.iface 371 (.pointer (some a)))/\W.cell? a=some (.string s)/\s.data.toList=Bi g/\a.spot=none/\∃ c t,W.heap[a.block]?=some (.cells c t (0,0))
theorem jcg(h:laidMet prog Hp W):∀ g∈y8,∃ a,Oi W g a:=by
 have k:=h.tail.tail.tail;have j:=k.tail;have i:=j.tail;have f:=i.tail;have d:=f.tail;have c:=d.tail;have l:=c.tail;intro g b;simp only[y8,zN,xR,or_false] at b;rcases b with rfl|rfl|rfl|rfl|rfl|rfl|rfl
 ·obtain⟨a,s,r⟩:=Yn (g:=7) (tp:=371) k (by kernel_rfl) (by kernel_rfl) underlying128 vu underlying371 underlying393 rfl rfl underlying9 fc dr
  exact⟨a,s,r⟩
 ·obtain⟨a,s,r⟩:=Yn (g:=8) (tp:=371) j (by kernel_rfl) (by kernel_rfl) underlying128 vu underlying371 underlying393 rfl rfl underlying9 fc dr
  exact⟨a,s,r⟩
 ·obtain⟨a,s,r⟩:=Yn (g:=4) (tp:=371) i (by kernel_rfl) (by kernel_rfl) underlying128 vu underlying371 underlying393 rfl rfl underlying9 fc dr
  exact⟨a,s,r⟩
 ·obtain⟨a,s,r⟩:=Yn (g:=3) (tp:=371) f (by kernel_rfl) (by kernel_rfl) underlying128 vu underlying371 underlying393 rfl rfl underlying9 fc dr
  exact⟨a,s,r⟩
 ·obtain⟨a,s,r⟩:=Yn (g:=2) (tp:=371) d (by kernel_rfl) (by kernel_rfl) underlying128 vu underlying371 underlying393 rfl rfl underlying9 fc dr
  exact⟨a,s,r⟩
 ·obtain⟨a,s,r⟩:=Yn (g:=1) (tp:=371) c (by kernel_rfl) (by kernel_rfl) underlying128 vu underlying371 underlying393 rfl rfl underlying9 fc dr
  exact⟨a,s,r⟩
 ·obtain⟨a,s,r⟩:=Yn (g:=0) (tp:=371) l (by kernel_rfl) (by kernel_rfl) underlying128 vu underlying371 underlying393 rfl rfl underlying9 fc dr
  exact⟨a,s,r⟩
theorem Rf{a:Addr}{v:Value}(h:W.cell? a=some v):a.block<W.heap.size:=by
 rcases ZM a.block W.heap.size with b|b
 ·exact b
 ·simp[World.cell?,XJ b] at h
theorem Ua:Rows.laid_internal_strconv_uint64pow10 (H:=Unit)=Lib.tabData .u64 Lib.pow10Tab:=by kernel_rfl
theorem Sg(h:laidMet prog Hp W):∃ E,Env E W.heap.size W:=by
 have u:=jcg h
 have key:∀ g,∃ a,g∈y8->Oi W g a:=fun g=>by
  rcases Classical.em (g∈y8)with b|b
  ·obtain⟨a,v⟩:=u g b
   exact⟨a,fun _=>v⟩
  ·exact⟨default,fun h=>absurd h b⟩
 have x:∀ g∈y8,Oi W g (Classical.choose (key g)):=fun g b=>Classical.choose_spec (key g) b;generalize he:(fun g=>Classical.choose (key g))=E;have c:∀ g∈y8,Oi W g (E g):=fun g b=>by rw[<-he];exact x g b
 have d:=h.tail.tail;have i:Lib.TabIs prog W "internal/strconv.uint64pow10" .u64 Lib.pow10Tab:=Lib.tabIs_of_head (g:=5) (by kernel_rfl) (by kernel_rfl) underlying338 underlying172 (by kernel_rfl) (by kernel_rfl) (by rw[<-Ua];exact d);have b:prog.globalNamed "internal/strconv.uint64pow10"=some 5:=by kernel_rfl
 have f:∃ t l,W.heap[5]?=some (.cells (Lib.pow10Tab.map fun z=>Value.int .u64 z).toArray t l):=by
  unfold Lib.TabIs World.var? at i;rw[b] at i;simp only[Option.bind_some] at i
  split at i
  ·rename_i cs t l m
   simp only[Option.some.injEq] at i;exact⟨t,l,by rw[m,i]⟩
  ·cases i
 refine⟨E,⟨?_,?_,?_,?_,?_,?_⟩,f,?_⟩
 ·intro g b
  obtain⟨s,j,_⟩:=c g b;exact j
 ·intro g b
  obtain⟨s,j,_⟩:=c g b;exact Rf j
 ·intro g b
  obtain⟨s,j,d,n,r,y⟩:=c g b;exact y
 ·intro g b
  obtain⟨s,j,d,_⟩:=c g b;exact Rf d
 ·intro g b
  obtain⟨s,j,d,n,r,_⟩:=c g b;exact r
 ·intro g b k q e
  obtain⟨s,_,d,n,_⟩:=c g b;obtain⟨s',_,p,o,_⟩:=c k q;rw[e,p] at d;cases d;exact Ea g b k q (n.symm.trans o)
 ·obtain⟨t,l,m⟩:=f
  exact(Array.getElem?_eq_some_iff.1 m).1
def I2:DataW Unit->Array Value
 | .agg ds=>(ds.map fun|.lit (.int k n)=>Value.int k n|_=>Value.nilIface).toArray
 | _=>#[]
def dw(d:DataW Unit):Obj:= .cells #[.string ⟨(ar d).toArray⟩] 393
def Bs (P : Program) (os : Os) : World :=
 let N:=(World.settled P os).heap.size
 let w0:=World.holding P os ⟨#[dw Rows.laid_sediment_fault_ErrShort,dw Rows.laid_sediment_fault_ErrSum,dw Rows.laid_sediment_fault_ErrValue,dw Rows.laid_sediment_fault_ErrTail,dw Rows.laid_sediment_fault_ErrMissing,
  dw Rows.laid_sediment_fault_ErrDisk,dw Rows.laid_sediment_fault_ErrFull],#[],[]⟩
 let put (h:Array Obj) (g:Nat) (cs:Array Value):Array Obj:=h.modify g fun
  | .cells _ t frozen=> .cells cs t frozen
  | o=>o
 let z8 (h:Array Obj) (g k:Nat):Array Obj:=put h g #[.iface 371 (.pointer (some ⟨N+k,0,none⟩))]
 let h0:=put w0.heap 9 (I2 Rows.laid_math_bits_deBruijn32tab)
 let h1:=put h0 10 (I2 Rows.laid_math_bits_deBruijn64tab)
 let h2:=put h1 5 (I2 Rows.laid_internal_strconv_uint64pow10)
 { w0 with heap:=z8 (z8 (z8 (z8 (z8 (z8 (z8 h2 7 0) 8 1) 4 2) 3 3) 2 4) 1 5) 0 6 }
end Go.Proofs.YtnipbplghijdmaaGreatDoor
