/-
-/
import Derived.Stop.Asserts
import Derived.Test.YtdaocdiabffpkaaGreatDoorR06
set_option maxRecDepth 100000
set_option maxHeartbeats 8000000
set_option linter.all false
namespace Go.Proofs.YtdaocdiabffpkaaGreatDoor
open RowKit Maps WideShapes Go.Extern Go.Proofs.Tryz
variable {w:World} {E:Nat->Addr} {B k:Nat} {v:Value}
theorem jek(v:Value)(w:World):(callFunc 108 #[.iface 344 v]).run prog w=.ok (.value (.iface 222 (.agg #[.pointer (some (B1 11 344))]))) w:=by kernel_rfl
theorem N6(w:World):(callFunc 269 #[.agg #[.pointer (some (B1 11 344))]]).run prog w=.ok (.value (.bool true)) w:=by kernel_rfl
theorem jnv:(prog.info? 344).map (·.comparable)=some true:=by kernel_rfl
theorem jnu:(prog.info? 366).map (·.size)=some 1:=by kernel_rfl
theorem joi(v:Value)(b:TypeId)(w:World):(Instr.typeAssert (.iface 344 v) b 224 true).run prog w=.ok (.tuple #[.nilIface,.bool false]) w:=run_typeAssert_lacksB underlying224 zH zH v b w
theorem jgs(v:Value)(b:TypeId)(w:World):(Instr.typeAssert (.iface 344 v) b 227 true).run prog w=.ok (.tuple #[.nilIface,.bool false]) w:=run_typeAssert_lacksB underlying227 zH zH v b w
theorem jdf(v:Value)(b:TypeId)(w:World):(Instr.typeAssert (.iface 344 v) b 228 true).run prog w=.ok (.tuple #[.nilIface,.bool false]) w:=run_typeAssert_lacksB underlying228 zH zH v b w
theorem joh(v:Value)(b:TypeId)(w:World):(Instr.typeAssert (.iface 168 v) b 224 true).run prog w=.ok (.tuple #[.nilIface,.bool false]) w:=run_typeAssert_lacksB underlying224 zH zH v b w
theorem jdw(v:Value)(b:TypeId)(w:World):(Instr.typeAssert (.iface 168 v) b 227 true).run prog w=.ok (.tuple #[.iface 168 v,.bool true]) w:=run_typeAssert_hasB underlying227 zH v b w
theorem Ui(v:Value)(w:World):(Go.method 478 168 v "Unwrap").run prog w=.ok (265,v) w:=by kernel_rfl
theorem Fy(v:Value)(w:World):(Go.method 478 222 v "Comparable").run prog w=.ok (269,v) w:=by kernel_rfl
def Nu:Value->Nat
 | .iface t (.pointer (some a))=>if t=168 then a.block+1 else 0
 | _=>0
theorem jca{b:Nat}{s c:Value}(h:w.heap[b]?=some (.cells #[s,c] 170 (0,0)))(d:∃ t a,c=.iface t (.pointer (some a))):Calls prog 265 #[P1 b] w λe w'=>e=.returned c/\w'=w:=by obtain⟨t,a,rfl⟩:=d;have f:=zK 1 h;simp at f;clear h;go_enter func265,ntmps265;go_wp2;go_ret;exact⟨rfl,rfl⟩
theorem jjw(S:Xv E B w)(h:Err E w v k)(g:Nat)(q:g∈zj):Calls prog 109 #[v,.iface 344 (.pointer (some (E g))),.bool true] w λe w'=>e=.returned (.bool (decide (k=g)))/\w'=w:=by
 obtain⟨i,hi,d⟩:=XP.1 jnv;obtain⟨j,p,m⟩:=XP.1 jnu;have L:=joi;have G:=jgs;have D:=jdf;have J:=joh;have F:=jdw;go_enter func109,ntmps109;go_wp2_with fail;go_loopw [0] (λu wr=>Err E w u k/\wr=w) (λu _=>Nu u);case atStart=>exact⟨h,rfl⟩
 case round=>obtain⟨z,rfl⟩:=hrel;obtain⟨o,rfl⟩|⟨b,s,c,rfl,l,A,x⟩:=z.inv;(· obtain rfl|f:=Classical.em (k=g);(· have n:=run_eql_iface_ptr_same (P:=prog) wr (E k) underlying81 underlying344 hi d p;go_wp2;go_ret;exact⟨zD,rfl⟩);· obtain⟨O,I,y⟩:=S.block k o;obtain⟨N,H,l⟩:=S.block g q;have n:=run_eql_iface_ptr_other (P:=prog) wr underlying81 underlying344 hi d p (by rw[m];decide) (λe=>f<|S.apart k o g q e) y l;clear y l;go_wp2;go_ret;exact⟨by simp[f],rfl⟩);· have C:=run_eql_iface_types (P:=prog) 168 344 (.pointer<|some (A2 b)) (.pointer<|some<|E g) underlying81 zE wr;have M:=Ui;obtain⟨t,a,rfl⟩:=x.shape;(have r:Nu (.iface t<|.pointer<|some a)<b+1:=by show(if t=168 then a.block+1 else 0)<b+1;grind);change Hid _ at r;clear A;go_wp2_with (go_at_call 265;refine(jca l ⟨t,a,rfl⟩).mono ?_;rintro e w' ⟨rfl,rfl⟩);exact⟨⟨x,trivial⟩,by simpa [Nu] using r.out⟩
theorem wo(S:Xv E B w)(h:Err E w v k)(g:Nat)(b:g∈zj):Calls prog 60 #[v,.iface 344 (.pointer (some (E g)))] w λe w'=>e=.returned (.bool (decide (k=g)))/\w'=w:=by have c:=jek;have f:=N6;have d:=Fy;obtain⟨t,a,rfl⟩:=h.shape;go_enter func60,ntmps60;go_wp2_with (go_at_call 109;refine(jjw S h g b).mono ?_;rintro e w' ⟨rfl,rfl⟩);go_ret;exact⟨rfl,rfl⟩
theorem jnt(a:Addr)(w:World):Calls prog 60 #[.nilIface,.iface 344 (.pointer (some a))] w λe w'=>e=.returned (.bool false)/\w'=w:=by have b:=run_eql_iface_nil_left (P:=prog) w 344 (.pointer<|some a) underlying81;go_enter func60,ntmps60;go_wp2;go_ret;exact⟨rfl,rfl⟩
