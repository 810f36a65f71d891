/-
-/
import Derived.Stop.Asserts
import Derived.Test.YtmjgfacoogdcdaaGreatDoorO06
set_option maxRecDepth 100000
set_option maxHeartbeats 8000000
set_option linter.all false
namespace Go.Proofs.YtmjgfacoogdcdaaGreatDoor
open RowKit Maps WideShapes Go.Extern Go.Proofs.Tryz
variable {w:World} {E:Nat->Addr} {B k:Nat} {v:Value}
theorem jbe(v:Value)(w:World):(callFunc 104 #[.iface 348 v]).run prog w=.ok (.value (.iface 217 (.agg #[.pointer (some (B3 11 348))]))) w:=by kernel_rfl
theorem Lh(w:World):(callFunc 272 #[.agg #[.pointer (some (B3 11 348))]]).run prog w=.ok (.value (.bool true)) w:=by kernel_rfl
theorem jlb:(prog.info? 348).map (·.comparable)=some true:=by kernel_rfl
theorem jla:(prog.info? 370).map (·.size)=some 1:=by kernel_rfl
theorem jlw(v:Value)(b:TypeId)(w:World):(Instr.typeAssert (.iface 348 v) b 219 true).run prog w=.ok (.tuple #[.nilIface,.bool false]) w:=run_typeAssert_lacksB underlying219 zH zH v b w
theorem jdk(v:Value)(b:TypeId)(w:World):(Instr.typeAssert (.iface 348 v) b 222 true).run prog w=.ok (.tuple #[.nilIface,.bool false]) w:=run_typeAssert_lacksB underlying222 zH zH v b w
theorem jaf(v:Value)(b:TypeId)(w:World):(Instr.typeAssert (.iface 348 v) b 223 true).run prog w=.ok (.tuple #[.nilIface,.bool false]) w:=run_typeAssert_lacksB underlying223 zH zH v b w
theorem jlv(v:Value)(b:TypeId)(w:World):(Instr.typeAssert (.iface 163 v) b 219 true).run prog w=.ok (.tuple #[.nilIface,.bool false]) w:=run_typeAssert_lacksB underlying219 zH zH v b w
theorem jax(v:Value)(b:TypeId)(w:World):(Instr.typeAssert (.iface 163 v) b 222 true).run prog w=.ok (.tuple #[.iface 163 v,.bool true]) w:=run_typeAssert_hasB underlying222 zH v b w
theorem P3(v:Value)(w:World):(Go.method 482 163 v "Unwrap").run prog w=.ok (268,v) w:=by kernel_rfl
theorem En(v:Value)(w:World):(Go.method 482 217 v "Comparable").run prog w=.ok (272,v) w:=by kernel_rfl
def K6:Value->Nat
 | .iface t (.pointer (some a))=>if t=163 then a.block+1 else 0
 | _=>0
theorem Vw{b:Nat}{s c:Value}(h:w.heap[b]?=some (.cells #[s,c] 165 (0,0)))(d:∃ t a,c=.iface t (.pointer (some a))):Calls prog 268 #[aA b] w λe w'=>e=.returned c/\w'=w:=by obtain⟨t,a,rfl⟩:=d;have f:=zK 1 h;simp at f;clear h;go_enter func268,ntmps268;go_wp2;go_ret;exact⟨rfl,rfl⟩
theorem jg1(S:Qg E B w)(h:Err E w v k)(g:Nat)(q:g∈ze):Calls prog 105 #[v,.iface 348 (.pointer (some (E g))),.bool true] w λe w'=>e=.returned (.bool (decide (k=g)))/\w'=w:=by
 obtain⟨i,hi,d⟩:=XE.1 jlb;obtain⟨j,p,m⟩:=XE.1 jla;have L:=jlw;have G:=jdk;have D:=jaf;have J:=jlv;have F:=jax;go_enter func105,ntmps105;go_wp2_with fail;go_loopw [0] (λu wr=>Err E w u k/\wr=w) (λu _=>K6 u);case atStart=>exact⟨h,rfl⟩
 case round=>obtain⟨z,rfl⟩:=hrel;obtain⟨o,rfl⟩|⟨b,s,c,rfl,l,A,x⟩:=z.inv;(· obtain rfl|f:=Classical.em (k=g);(· have n:=run_eql_iface_ptr_same (P:=prog) wr (E k) underlying88 underlying348 hi d p;go_wp2;go_ret;exact⟨zD,rfl⟩);· obtain⟨O,I,y⟩:=S.block k o;obtain⟨N,H,l⟩:=S.block g q;have n:=run_eql_iface_ptr_other (P:=prog) wr underlying88 underlying348 hi d p (by rw[m];decide) (λe=>f<|S.apart k o g q e) y l;clear y l;go_wp2;go_ret;exact⟨by simp[f],rfl⟩);· have C:=run_eql_iface_types (P:=prog) 163 348 (.pointer<|some (aC b)) (.pointer<|some<|E g) underlying88 zE wr;have M:=P3;obtain⟨t,a,rfl⟩:=x.shape;(have r:K6 (.iface t<|.pointer<|some a)<b+1:=by show(if t=163 then a.block+1 else 0)<b+1;grind);change Hid _ at r;clear A;go_wp2_with (go_at_call 268;refine(Vw l ⟨t,a,rfl⟩).mono ?_;rintro e w' ⟨rfl,rfl⟩);exact⟨⟨x,trivial⟩,by simpa [K6] using r.out⟩
theorem Bq(S:Qg E B w)(h:Err E w v k)(g:Nat)(b:g∈ze):Calls prog 62 #[v,.iface 348 (.pointer (some (E g)))] w λe w'=>e=.returned (.bool (decide (k=g)))/\w'=w:=by have c:=jbe;have f:=Lh;have d:=En;obtain⟨t,a,rfl⟩:=h.shape;go_enter func62,ntmps62;go_wp2_with (go_at_call 105;refine(jg1 S h g b).mono ?_;rintro e w' ⟨rfl,rfl⟩);go_ret;exact⟨rfl,rfl⟩
theorem jk9(a:Addr)(w:World):Calls prog 62 #[.nilIface,.iface 348 (.pointer (some a))] w λe w'=>e=.returned (.bool false)/\w'=w:=by have b:=run_eql_iface_nil_left (P:=prog) w 348 (.pointer<|some a) underlying88;go_enter func62,ntmps62;go_wp2;go_ret;exact⟨rfl,rfl⟩
