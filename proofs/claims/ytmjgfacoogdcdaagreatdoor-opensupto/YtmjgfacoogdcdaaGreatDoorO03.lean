/-
-/
import Derived.Deep.RegionLaw
import Derived.Maps.AppendAt
import Derived.Test.YtmjgfacoogdcdaaGreatDoorO02
set_option linter.all false
namespace Go.Proofs.YtmjgfacoogdcdaaGreatDoor
open RowKit Maps WideShapes Go.Proofs.Tryz
variable {w:World} {e:TypeId} {P:Program} {ops:Array Oper} {o:Oper} {a:Act} {Q:Exit->Act->World->Prop}
theorem add_zero(g j:Nat):((aC g):Addr).add j=(B3 g j):=by grind [Addr.add]
theorem Qj{g:Nat}{b:Array Value}{c:Nat×Nat}(h:w.heap[g]?=some (.cells b e c)){l:List Value}(d:b.toList=l):∀ j u,l[j]?=some u->w.cell? (((aC g):Addr).add j)=some u:=by grind [add_zero,zM]
theorem ji{base size n:Nat}{v:Value}{xs:List Value}(h:w.ownsRow base e size v n xs):∃ p cp,v=.slice p n cp:=by obtain⟨rfl,rfl⟩|⟨g,cap,b,rfl,_⟩:=h.2;exact⟨none,0,rfl⟩;exact⟨_,_,rfl⟩
theorem qy{K:Act->World->Prop}{E:Prop}(q:o.guard=none)(s x:Operand)(t:TypeId)(f:o.op=Op.call { callee:=Callee.builtin Builtin.append,args:=#[s,x],argTypes:=#[t,t] })(base:Nat)(e:TypeId)(i:TypeInfo)(z:Value)(size bytes:Nat)(ht:P.underlying t=some (.slice e))(hi:P.info? e=some i)(hz:i.zero=some z)(hsize:i.size=size)(hby:i.bytes=bytes)(hzs:z.cells.size=size)(hsz:0<size)(v:Value)(n:Nat)(xs:List Value)(hs:a.eval s=v)(hown:w.ownsRow base e size v n xs)(ad:Addr)(m c:Nat)(news:List Value)(hx:a.eval x=.slice (some ad) m c)(hl:news.length=m*size)(hnews:∀ j u,news[j]?=some u->w.cell? (ad.add j)=some u)(h1:∀ u∈news,u.oneCell'=true)(h63:n+m<=maxLen)(hbytes:(n+m)*bytes<=140737488355328)(hbase:base<=w.heap.size)(hK:∀(p:Option Addr) (b:Nat) (d:World),d.ownsRow base e size (.slice p (n+m) b) (n+m) (xs++news)->w.grownBy d v.ownBlock->((Value.slice p (n+m) b).ownBlock=v.ownBlock\/(Value.slice p (n+m) b).ownBlock=some w.heap.size)->K (a.put o.dst (.slice p (n+m) b)) d):if Region.wanted o (yielded ops a.tmps)=true then Oper.wp P o a w K Q else E:=by
 have k:Region.wanted o (yielded ops a.tmps)=true:=by simp[Region.wanted,q]
 rw[if_pos k];obtain⟨v',d,l,g,y,A,r⟩:=run_append_own_at (P:=P) w base t o.type e i z size bytes ht hi hz hsize hby hzs hsz v n xs hown ad m c news hl hnews h1 h63 hbytes hbase;unfold Oper.wp;simp[execOp,f,resolve,invoke,builtin,hs,hx,l,Result.andThen];obtain⟨p,b,rfl⟩:=ji g;exact hK p b d g y r
theorem jl(w:World){rest:List Oper}(d:o.guard=none)(s x:Operand)(t:TypeId)(f:o.op=.call { callee:=.builtin .append,args:=#[s,x],argTypes:=#[t,t] })(base:Nat)(e:TypeId)(i:TypeInfo)(z:Value)(size bytes:Nat)(ht:P.underlying t=some (.slice e))(hi:P.info? e=some i)(hz:i.zero=some z)(hsize:i.size=size)(hby:i.bytes=bytes)(hzs:z.cells.size=size)(hsz:0<size)(v:Value)(n:Nat)(xs:List Value)(hs:a.eval s=v)(hown:w.ownsRow base e size v n xs)(ad:Addr)(m c:Nat)(news:List Value)(hx:a.eval x=.slice (some ad) m c)(hl:news.length=m*size)(hnews:∀ j u,news[j]?=some u->w.cell? (ad.add j)=some u)(h1:∀ u∈news,u.oneCell'=true)(h63:n+m<=maxLen)(hbytes:(n+m)*bytes<=140737488355328)(hbase:base<=w.heap.size)(hK:∀(p:Option Addr) (b:Nat) (w':World),w'.ownsRow base e size (.slice p (n+m) b) (n+m) (xs++news)->w.grownBy w' v.ownBlock->((Value.slice p (n+m) b).ownBlock=v.ownBlock\/(Value.slice p (n+m) b).ownBlock=some w.heap.size)->wpList P ops Q rest (a.put o.dst (.slice p (n+m) b)) w'):wpList P ops Q (o::rest) a w:=wpList_append_own_at w d s x t f base e i z size bytes ht hi hz hsize hby hzs hsz v n xs hs hown ad m c news hx hl hnews h1 h63 hbytes hbase (λv' w' h2 h3 _ h5=>by obtain⟨p,b,rfl⟩:=ji h2;exact hK p b w' h2 h3 h5)
theorem zQ{x:Int}(b:-9223372036854775808<=x:=by omega)(h2:x<=9223372036854775807:=by omega):IntKind.i64.wrap x=x:=by grind [IntKind.wrap,IntKind.signed,IntKind.bits]
def jci:Value:=.agg #[.string ⟨#[]⟩,.string ⟨#[]⟩,.string ⟨#[]⟩,.pointer none]
theorem Tryz.jaw:(prog.info? 206).map (λi=>(i.zero,i.size,i.bytes))=some (some jci,4,56):=by kernel_rfl
def jf6:Value:=.agg #[aB 0,aB 0]
theorem Tryz.jd1:(prog.info? 180).map (λi=>(i.zero,i.size,i.bytes))=some (some jf6,2,16):=by kernel_rfl
theorem Tryz.vf:(prog.info? 5).map (λi=>(i.zero,i.size,i.bytes))=some (some (.int .u8 0),1,1):=by kernel_rfl
theorem Tryz.Db:(prog.info? 9).map (λi=>(i.zero,i.size,i.bytes))=some (some (.string ⟨#[]⟩),1,16):=by kernel_rfl
theorem jcn(w:World):(zeroValue 91).run prog w=.ok (.pointer none) w:=by kernel_rfl
theorem T8(f:Option Nat):(me f).oneCell'=true:=by cases f<;>rfl
theorem jbd(c:Jh):∀ u∈xe [c],u.oneCell'=true:=by intro u b;simp[xe] at b;obtain rfl|rfl|rfl|rfl:=b<;>first|rfl|exact T8 _
theorem Ey(l:List Jh)(c:Jh):xe (l++[c])=xe l++xe [c]:=by simp[xe]
theorem Gx(l:List (Nat×Nat))(c:Nat×Nat):zu (l++[c])=zu l++zu [c]:=by simp[zu]
