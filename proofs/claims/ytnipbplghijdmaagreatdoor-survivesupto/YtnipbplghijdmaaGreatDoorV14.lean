/-
  V: Is.
-/
import Derived.Stop.Asserts
import Derived.Test.YtnipbplghijdmaaGreatDoorV06
set_option maxRecDepth 100000
set_option maxHeartbeats 8000000
set_option linter.unusedVariables false
set_option linter.unusedSimpArgs false
namespace Go.Proofs.YtnipbplghijdmaaGreatDoor
open RowKit Maps WideShapes Go.Extern Go.Proofs.Tryz
variable {w:World} {E:Nat->Addr} {B k:Nat} {v:Value}
theorem Vn(v:Value)(w:World):(callFunc 156 #[.iface 371 v]).run prog w = .ok (.value (.iface 263 (.agg #[.pointer (some ⟨11,371,none⟩)]))) w:=by kernel_rfl
theorem Iu(w:World):(callFunc 307 #[.agg #[.pointer (some ⟨11,371,none⟩)]]).run prog w = .ok (.value (.bool true)) w:=by kernel_rfl
theorem jgl:(prog.info? 371).map (·.comparable)=some true:=by kernel_rfl
theorem jgk:(prog.info? 393).map (·.size)=some 1:=by kernel_rfl
theorem jg8(v:Value)(b:TypeId)(w:World):(Instr.typeAssert (.iface 371 v) b 265 true).run prog w = .ok (.tuple #[.nilIface,.bool false]) w:=run_typeAssert_lacksB underlying265 (by kernel_rfl) (by kernel_rfl) v b w
theorem jax(v:Value)(b:TypeId)(w:World):(Instr.typeAssert (.iface 371 v) b 268 true).run prog w = .ok (.tuple #[.nilIface,.bool false]) w:=run_typeAssert_lacksB underlying268 (by kernel_rfl) (by kernel_rfl) v b w
theorem Ui(v:Value)(b:TypeId)(w:World):(Instr.typeAssert (.iface 371 v) b 269 true).run prog w = .ok (.tuple #[.nilIface,.bool false]) w:=run_typeAssert_lacksB underlying269 (by kernel_rfl) (by kernel_rfl) v b w
theorem jg7(v:Value)(b:TypeId)(w:World):(Instr.typeAssert (.iface 246 v) b 265 true).run prog w = .ok (.tuple #[.nilIface,.bool false]) w:=run_typeAssert_lacksB underlying265 (by kernel_rfl) (by kernel_rfl) v b w
theorem U4(v:Value)(b:TypeId)(w:World):(Instr.typeAssert (.iface 246 v) b 268 true).run prog w = .ok (.tuple #[.iface 246 v,.bool true]) w:=run_typeAssert_hasB underlying268 (by kernel_rfl) v b w
theorem Nd(v:Value)(w:World):(Go.method 505 246 v "Unwrap").run prog w = .ok (303,v) w:=by kernel_rfl
theorem Bp(v:Value)(w:World):(Go.method 505 263 v "Comparable").run prog w = .ok (307,v) w:=by kernel_rfl
def Ih:Value->Nat
 | .iface t (.pointer (some a))=>if t=246 then a.block+1 else 0
 | _=>0
theorem Ti{b:Nat}{s c:Value}(h:w.heap[b]?=some (.cells #[s,c] 248 (0,0)))(d:∃ t a,c = .iface t (.pointer (some a))) :
 Calls prog 303 #[.pointer (some ⟨b,0,none⟩)] w fun e w'=>e = .returned c/\w'=w:=by
 obtain⟨t,a,rfl⟩:=d;have f:=zA (o:=1) h;simp at f;clear h;go_enter func303,ntmps303;go_wp2;go_ret;exact⟨rfl,rfl⟩
theorem jdp(S:Xb E B w)(h:Err E w v k)(g:Nat)(x:g∈y8) :
 Calls prog 157 #[v,.iface 371 (.pointer (some (E g))),.bool true] w fun e w'=>e = .returned (.bool (decide (k=g)))/\w'=w:=by
 obtain⟨i,r,d⟩:=XK.1 jgl;obtain⟨j,q,m⟩:=XK.1 jgk;have N:=jg8;have I:=jax;have G:=Ui;have M:=jg7;have H:=U4;go_enter func157,ntmps157;go_wp2_with fail
 go_loopw [0] (fun u wr=>Err E w u k/\wr=w) (fun u _=>Ih u)
 case atStart=>exact⟨h,rfl⟩
 case round =>
  obtain⟨C,rfl⟩:=hrel;rcases C.inv with⟨p,rfl⟩|⟨b,s,c,rfl,l,o,z⟩
  ·rcases Classical.em (k=g)with rfl|f
   ·have n:=run_eql_iface_ptr_same (P:=prog) wr (E k) underlying128 underlying371 r d q
    go_wp2;go_ret;exact⟨by simp,rfl⟩
   ·obtain⟨T,L,A⟩:=S.block k p
    obtain⟨R,J,l⟩:=S.block g x;have n:=run_eql_iface_ptr_other (P:=prog) wr underlying128 underlying371 r d q (by rw[m];decide) (fun e=>f (S.apart k p g x e)) A l;clear A l;go_wp2;go_ret;exact⟨by simp[f],rfl⟩
  ·have F:=run_eql_iface_types (P:=prog) 246 371 (.pointer (some ⟨b,0,none⟩)) (.pointer (some (E g))) underlying128 (by decide) wr
   have O:=Nd;obtain⟨t,a,rfl⟩:=z.shape
   have y:Ih (.iface t (.pointer (some a)))<b+1:=by
    show(if t=246 then a.block+1 else 0)<b+1
    split
    ·rename_i ht
     have:=o a (by rw[ht]);omega
    ·omega
   have D:=jb y;clear y o
   go_wp2_with (go_at_call 303;refine(Ti l ⟨t,a,rfl⟩).mono ?_;rintro e w' ⟨rfl,rfl⟩)
   exact⟨⟨z,trivial⟩,by simpa [Ih] using D.out⟩
theorem ri(S:Xb E B w)(h:Err E w v k)(g:Nat)(b:g∈y8) :
 Calls prog 109 #[v,.iface 371 (.pointer (some (E g)))] w fun e w'=>e = .returned (.bool (decide (k=g)))/\w'=w:=by
 have c:=Vn;have f:=Iu;have d:=Bp;obtain⟨t,a,rfl⟩:=h.shape;go_enter func109,ntmps109
 go_wp2_with (go_at_call 157;refine(jdp S h g b).mono ?_;rintro e w' ⟨rfl,rfl⟩)
 go_ret;exact⟨rfl,rfl⟩
theorem jgj(a:Addr)(w:World):Calls prog 109 #[.nilIface,.iface 371 (.pointer (some a))] w fun e w'=>e = .returned (.bool false)/\w'=w:=by
 have b:=run_eql_iface_nil_left (P:=prog) w 371 (.pointer (some a)) underlying128;go_enter func109,ntmps109;go_wp2;go_ret;exact⟨rfl,rfl⟩
end Go.Proofs.YtnipbplghijdmaaGreatDoor
