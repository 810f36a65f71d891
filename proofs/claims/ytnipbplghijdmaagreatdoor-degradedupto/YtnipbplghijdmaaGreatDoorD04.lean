/-
  D: Laws.
-/
import Derived.Deep.RegionLaw
import Derived.Maps.AppendAt
import Derived.Test.YtnipbplghijdmaaGreatDoorD03
set_option linter.unusedVariables false
set_option linter.unusedSimpArgs false
namespace Go.Proofs.YtnipbplghijdmaaGreatDoor
open RowKit Maps WideShapes Go.Proofs.Tryz
variable {w:World} {e:TypeId} {P:Program} {ops:Array Oper} {o:Oper} {a:Act} {Q:Exit->Act->World->Prop}
theorem add_zero(g j:Nat):(⟨g,0,none⟩:Addr).add j=⟨g,j,none⟩:=by unfold Addr.add;split<;>simp_all
theorem J8{g:Nat}{b:Array Value}{f:Nat×Nat}(h:w.heap[g]?=some (.cells b e f)){l:List Value}(d:b.toList=l):∀ j u,l[j]?=some u->w.cell? ((⟨g,0,none⟩:Addr).add j)=some u:=by
 intro j u c;subst d;rw[add_zero,zA h];simpa using c
theorem jl{base size n:Nat}{v:Value}{xs:List Value}(h:w.ownsRow base e size v n xs):∃ p cp,v = .slice p n cp:=by
 rcases h.2 with⟨rfl,rfl⟩|⟨g,cap,b,rfl,_⟩
 ·exact⟨none,0,rfl⟩
 ·exact⟨_,_,rfl⟩
theorem ye{K:Act->World->Prop}{E:Prop}(l:o.guard=none)(s x:Operand)(t:TypeId)(d:o.op=Op.call { callee:=Callee.builtin Builtin.append,args:=#[s,x],argTypes:=#[t,t] })(base:Nat)(e:TypeId)(i:TypeInfo)(z:Value)(size bytes:Nat)(ht:P.underlying t=some (.slice e))(hi:P.info? e=some i)(hz:i.zero=some z)(hsize:i.size=size)(hby:i.bytes=bytes)(hzs:z.cells.size=size)(hsz:0<size)(v:Value)(n:Nat)(xs:List Value)(hs:a.eval s=v)(hown:w.ownsRow base e size v n xs)(ad:Addr)(m c:Nat)(news:List Value)(hx:a.eval x = .slice (some ad) m c)(hl:news.length=m*size)(hnews:∀ j u,news[j]?=some u->w.cell? (ad.add j)=some u)(h1:∀ u∈news,u.oneCell'=true)(h63:n+m<=maxLen)(hbytes:(n+m)*bytes<=140737488355328)(hbase:base<=w.heap.size)(hK:∀(p:Option Addr) (b:Nat) (w':World),w'.ownsRow base e size (.slice p (n+m) b) (n+m) (xs++news)->w.grownBy w' v.ownBlock->((Value.slice p (n+m) b).ownBlock=v.ownBlock\/(Value.slice p (n+m) b).ownBlock=some w.heap.size)->K (a.put o.dst (.slice p (n+m) b)) w') :
 if Region.wanted o (yielded ops a.tmps)=true then Oper.wp P o a w K Q else E:=by
 have g:Region.wanted o (yielded ops a.tmps)=true:=by simp[Region.wanted,l]
 rw[if_pos g];obtain⟨v',w',k,f,r,y,q⟩:=run_append_own_at (P:=P) w base t o.type e i z size bytes ht hi hz hsize hby hzs hsz v n xs hown ad m c news hl hnews h1 h63 hbytes hbase;unfold Oper.wp;simp[execOp,d,resolve,invoke,builtin,hs,hx,k,Result.andThen];obtain⟨p,b,rfl⟩:=jl f;exact hK p b w' f r q
theorem jy(w:World){rest:List Oper}(d:o.guard=none)(s x:Operand)(t:TypeId)(f:o.op = .call { callee:= .builtin .append,args:=#[s,x],argTypes:=#[t,t] })(base:Nat)(e:TypeId)(i:TypeInfo)(z:Value)(size bytes:Nat)(ht:P.underlying t=some (.slice e))(hi:P.info? e=some i)(hz:i.zero=some z)(hsize:i.size=size)(hby:i.bytes=bytes)(hzs:z.cells.size=size)(hsz:0<size)(v:Value)(n:Nat)(xs:List Value)(hs:a.eval s=v)(hown:w.ownsRow base e size v n xs)(ad:Addr)(m c:Nat)(news:List Value)(hx:a.eval x = .slice (some ad) m c)(hl:news.length=m*size)(hnews:∀ j u,news[j]?=some u->w.cell? (ad.add j)=some u)(h1:∀ u∈news,u.oneCell'=true)(h63:n+m<=maxLen)(hbytes:(n+m)*bytes<=140737488355328)(hbase:base<=w.heap.size)(hK:∀(p:Option Addr) (b:Nat) (w':World),w'.ownsRow base e size (.slice p (n+m) b) (n+m) (xs++news)->w.grownBy w' v.ownBlock->((Value.slice p (n+m) b).ownBlock=v.ownBlock\/(Value.slice p (n+m) b).ownBlock=some w.heap.size)->wpList P ops Q rest (a.put o.dst (.slice p (n+m) b)) w') :
 wpList P ops Q (o::rest) a w :=
 wpList_append_own_at w d s x t f base e i z size bytes ht hi hz hsize hby hzs hsz v n xs hs hown ad m c news hx hl hnews h1 h63 hbytes hbase (fun v' w' h2 h3 _ h5=>by
  obtain⟨p,b,rfl⟩:=jl h2
  exact hK p b w' h2 h3 h5)
theorem zE{x:Int}(c:-9223372036854775808<=x)(b:x<=9223372036854775807):IntKind.i64.wrap x=x:=by
 simp only[IntKind.wrap,IntKind.signed,IntKind.bits];simp;omega
def jas:Value:= .agg #[.string ⟨#[]⟩,.string ⟨#[]⟩,.string ⟨#[]⟩,.pointer none]
theorem Tryz.Vn:(prog.info? 148).map (fun i=>(i.zero,i.size,i.bytes))=some (some jas,4,56):=by kernel_rfl
def Ux:Value:= .agg #[.int .i64 0,.int .i64 0]
theorem Tryz.Mk:(prog.info? 192).map (fun i=>(i.zero,i.size,i.bytes))=some (some Ux,2,16):=by kernel_rfl
theorem Tryz.mn:(prog.info? 5).map (fun i=>(i.zero,i.size,i.bytes))=some (some (.int .u8 0),1,1):=by kernel_rfl
theorem Tryz.Ax:(prog.info? 9).map (fun i=>(i.zero,i.size,i.bytes))=some (some (.string ⟨#[]⟩),1,16):=by kernel_rfl
theorem jaw(w:World):(zeroValue 146).run prog w = .ok (.pointer none) w:=by kernel_rfl
theorem Rt(f:Option Nat):(fy f).oneCell'=true:=by cases f<;>rfl
theorem V7(c:y9):∀ u∈xe [c],u.oneCell'=true:=by
 intro u b;simp[xe] at b;rcases b with rfl|rfl|rfl|rfl<;>first|rfl|exact Rt _
theorem Cb(l:List y9)(c:y9):xe (l++[c])=xe l++xe [c]:=by simp[xe]
theorem oi(l:List (Nat×Nat))(c:Nat×Nat):qz (l++[c])=qz l++qz [c]:=by simp[qz]
end Go.Proofs.YtnipbplghijdmaaGreatDoor
