/-
  D: Is.
-/
import Derived.Stop.Asserts
import Derived.Test.YtnipbplghijdmaaGreatDoorD07
set_option maxRecDepth 100000
set_option maxHeartbeats 8000000
set_option linter.unusedVariables false
set_option linter.unusedSimpArgs false
namespace Go.Proofs.YtnipbplghijdmaaGreatDoor
open RowKit Maps WideShapes Go.Extern Go.Proofs.Tryz
variable {w:World} {E:Nat->Addr} {B k:Nat} {v:Value}
theorem Wd(v:Value)(w:World):(callFunc 156 #[.iface 371 v]).run prog w = .ok (.value (.iface 263 (.agg #[.pointer (some ⟨11,371,none⟩)]))) w:=by kernel_rfl
theorem I8(w:World):(callFunc 307 #[.agg #[.pointer (some ⟨11,371,none⟩)]]).run prog w = .ok (.value (.bool true)) w:=by kernel_rfl
theorem jg5:(prog.info? 371).map (·.comparable)=some true:=by kernel_rfl
theorem jg4:(prog.info? 393).map (·.size)=some 1:=by kernel_rfl
theorem jhr(v:Value)(b:TypeId)(w:World):(Instr.typeAssert (.iface 371 v) b 265 true).run prog w = .ok (.tuple #[.nilIface,.bool false]) w:=run_typeAssert_lacksB underlying265 (by kernel_rfl) (by kernel_rfl) v b w
theorem jbf(v:Value)(b:TypeId)(w:World):(Instr.typeAssert (.iface 371 v) b 268 true).run prog w = .ok (.tuple #[.nilIface,.bool false]) w:=run_typeAssert_lacksB underlying268 (by kernel_rfl) (by kernel_rfl) v b w
theorem U5(v:Value)(b:TypeId)(w:World):(Instr.typeAssert (.iface 371 v) b 269 true).run prog w = .ok (.tuple #[.nilIface,.bool false]) w:=run_typeAssert_lacksB underlying269 (by kernel_rfl) (by kernel_rfl) v b w
theorem jhq(v:Value)(b:TypeId)(w:World):(Instr.typeAssert (.iface 246 v) b 265 true).run prog w = .ok (.tuple #[.nilIface,.bool false]) w:=run_typeAssert_lacksB underlying265 (by kernel_rfl) (by kernel_rfl) v b w
theorem Vo(v:Value)(b:TypeId)(w:World):(Instr.typeAssert (.iface 246 v) b 268 true).run prog w = .ok (.tuple #[.iface 246 v,.bool true]) w:=run_typeAssert_hasB underlying268 (by kernel_rfl) v b w
theorem Nv(v:Value)(w:World):(Go.method 505 246 v "Unwrap").run prog w = .ok (303,v) w:=by kernel_rfl
theorem Bw(v:Value)(w:World):(Go.method 505 263 v "Comparable").run prog w = .ok (307,v) w:=by kernel_rfl
def Ii:Value->Nat
 | .iface t (.pointer (some a))=>if t=246 then a.block+1 else 0
 | _=>0
theorem Uc{b:Nat}{s c:Value}(h:w.heap[b]?=some (.cells #[s,c] 248 (0,0)))(d:∃ t a,c = .iface t (.pointer (some a))) :
 Calls prog 303 #[.pointer (some ⟨b,0,none⟩)] w fun e w'=>e = .returned c/\w'=w:=by
 obtain⟨t,a,rfl⟩:=d;have f:=zA (o:=1) h;simp at f;clear h;go_enter func303,ntmps303;go_wp2;go_ret;exact⟨rfl,rfl⟩
theorem jd5(S:Xg E B w)(h:Err E w v k)(g:Nat)(x:g∈za) :
 Calls prog 157 #[v,.iface 371 (.pointer (some (E g))),.bool true] w fun e w'=>e = .returned (.bool (decide (k=g)))/\w'=w:=by
 obtain⟨i,r,d⟩:=ZO.1 jg5;obtain⟨j,q,m⟩:=ZO.1 jg4;have N:=jhr;have I:=jbf;have G:=U5;have M:=jhq;have H:=Vo;go_enter func157,ntmps157;go_wp2_with fail
 go_loopw [0] (fun u wr=>Err E w u k/\wr=w) (fun u _=>Ii u)
 case atStart=>exact⟨h,rfl⟩
 case round =>
  obtain⟨C,rfl⟩:=hrel;rcases C.inv with⟨p,rfl⟩|⟨b,s,c,rfl,l,o,z⟩
  ·rcases Classical.em (k=g)with rfl|f
   ·have n:=run_eql_iface_ptr_same (P:=prog) wr (E k) underlying128 underlying371 r d q
    go_wp2;go_ret;exact⟨by simp,rfl⟩
   ·obtain⟨T,L,A⟩:=S.block k p
    obtain⟨R,J,l⟩:=S.block g x;have n:=run_eql_iface_ptr_other (P:=prog) wr underlying128 underlying371 r d q (by rw[m];decide) (fun e=>f (S.apart k p g x e)) A l;clear A l;go_wp2;go_ret;exact⟨by simp[f],rfl⟩
  ·have F:=run_eql_iface_types (P:=prog) 246 371 (.pointer (some ⟨b,0,none⟩)) (.pointer (some (E g))) underlying128 (by decide) wr
   have O:=Nv;obtain⟨t,a,rfl⟩:=z.shape
   have y:Ii (.iface t (.pointer (some a)))<b+1:=by
    show(if t=246 then a.block+1 else 0)<b+1
    split
    ·rename_i ht
     have:=o a (by rw[ht]);omega
    ·omega
   have D:=jb y;clear y o
   go_wp2_with (go_at_call 303;refine(Uc l ⟨t,a,rfl⟩).mono ?_;rintro e w' ⟨rfl,rfl⟩)
   exact⟨⟨z,trivial⟩,by simpa [Ii] using D.out⟩
theorem ry(S:Xg E B w)(h:Err E w v k)(g:Nat)(b:g∈za) :
 Calls prog 109 #[v,.iface 371 (.pointer (some (E g)))] w fun e w'=>e = .returned (.bool (decide (k=g)))/\w'=w:=by
 have c:=Wd;have f:=I8;have d:=Bw;obtain⟨t,a,rfl⟩:=h.shape;go_enter func109,ntmps109
 go_wp2_with (go_at_call 157;refine(jd5 S h g b).mono ?_;rintro e w' ⟨rfl,rfl⟩)
 go_ret;exact⟨rfl,rfl⟩
theorem jg3(a:Addr)(w:World):Calls prog 109 #[.nilIface,.iface 371 (.pointer (some a))] w fun e w'=>e = .returned (.bool false)/\w'=w:=by
 have b:=run_eql_iface_nil_left (P:=prog) w 371 (.pointer (some a)) underlying128;go_enter func109,ntmps109;go_wp2;go_ret;exact⟨rfl,rfl⟩
end Go.Proofs.YtnipbplghijdmaaGreatDoor
