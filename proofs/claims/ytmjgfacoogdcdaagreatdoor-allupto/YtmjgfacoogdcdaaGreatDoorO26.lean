/-
-/
import Derived.OrdersIn
import Derived.Test.YtmjgfacoogdcdaaGreatDoorO21
set_option linter.all false
namespace Go.Proofs.YtmjgfacoogdcdaaGreatDoor
open RowKit Maps WideShapes
variable {P:Program} {l n:Nat} {a:Act} {w:World} {Q:Exit->Act->World->Prop} {ops:Array Oper}
theorem Mp{o:Oper}{K:Act->World->Prop}(b:∀ c,o.op≠.defer c)(h:o.wp P a w K Q):o.wpIn (Fence.wide.inRound l) n P a w K Q:=by
 refine⟨λf _=>trivial,?_⟩
 rw[Oper.semAt_eq _ _ _ b]
 unfold Oper.wp at h
 generalize (execOp a.eval o).run P w=r at h ⊢
 cases r with
 | ok x w' =>
  cases x with
  | value v=>exact h
  | skip=>exact h
  | defer d=>exact h
  | enter f args=>exact⟨λh=>by simp[Fence.wide] at h,((callsIn_wide.2 h).inRound l).mono (λe w' he=>he)⟩
  | row row args=>exact⟨λh=>by simp[Fence.wide] at h,λc cs _=>let ⟨v,w',r,s⟩:=h c cs;⟨v,w',r,stepsIn_wide.2 s⟩⟩
  | round l' f tmps assign body=>exact h.elim
  | _=>exact h.elim
 | halt s w' =>
  cases s with
  | panic v=>exact h
  | _=>exact h.elim
theorem Hi{g:Region.Mode}(j:∀(i:Nat) o,ops[i]?=some o->∀ c,o.op≠.defer c)(k:¬LetsOut Q):∀(fuel:Nat) (b:Array Bool) (a:Act) (w:World),wpAny P g ops Q fuel b a w->wpAnyIn (Fence.wide.inRound l) n P g ops Q fuel b a w:=by intro fuel;induction fuel with|zero=>intro b a w h;exact h|succ fuel ih=>intro b a w h;refine⟨h.1,λi hi=>?_⟩;have d:=h.2 i hi;unfold wpOp at d;unfold wpOpIn;cases ho:ops[i]? with|none=>simp only[ho] at d;exact ih _ _ _ d|some o=>simp only[ho] at d;by_cases hw:Region.wanted o (yielded ops a.tmps)=true;simp only[hw,if_true] at d ⊢;rcases d with d|d;exact Oper.wpIn_mono (λa w h=>ih _ _ _ h)<|Mp (j i o ho) d;exact(k d.2).elim;simp only[hw] at d ⊢;exact⟨λf _=>trivial,ih _ _ _ d⟩
def Tg(ops:Array Oper):Bool:=ops.all (λo=>match o.op with|.defer _=>false|_=>true)
theorem Ml(h:Tg ops=true):∀(i:Nat) o,ops[i]?=some o->∀ c,o.op≠.defer c:=by intro i o b c e;have:=(Array.all_eq_true_iff_forall_mem.1 h) o<|Array.mem_of_getElem? b;rw[e] at this;cases this
theorem tm{id:Nat}(b:P.follows .mixedOrders=true)(c:Tg ops=true)(d:¬LetsOut Q)(h:wpAny P .any ops Q ops.size (Array.replicate ops.size false) a w.drew):(Code.region id ops true).wpIn (Fence.wide.inRound l) n P Q a w:=wpIn_region_any b<|Hi (Ml c) d _ _ _ _ h
