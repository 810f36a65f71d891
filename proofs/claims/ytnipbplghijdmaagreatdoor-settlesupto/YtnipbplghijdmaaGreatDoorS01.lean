/-
  S: RefA Plain Parse Merge Heap Run Run2 ManRead.
-/
import Derived.ProofKit
set_option linter.unusedVariables false
set_option linter.unusedSimpArgs false
namespace Go.Proofs.YtnipbplghijdmaaGreatDoor
theorem zF:type_of% @List.map_congr_left:=@List.map_congr_left
theorem zG:type_of% @List.pairwise_cons:=@List.pairwise_cons
theorem zH:type_of% @List.mem_cons:=@List.mem_cons
theorem zI:type_of% @List.map_cons:=@List.map_cons
theorem zJ:type_of% @List.getElem?_map:=@List.getElem?_map
theorem zK:type_of% @List.getElem?_take:=@List.getElem?_take
theorem zL:type_of% @List.getElem?_eq_getElem:=@List.getElem?_eq_getElem
theorem zM:type_of% @World.block_lt_of_cell?:=@World.block_lt_of_cell?
theorem zN:type_of% @List.take_succ_eq_append_getElem:=@List.take_succ_eq_append_getElem
theorem zO:type_of% @List.foldl_append:=@List.foldl_append
theorem zP:type_of% @Nat.zero_add:=@Nat.zero_add
theorem zQ:type_of% @List.getElem?_append_left:=@List.getElem?_append_left
theorem zR:type_of% @List.getElem?_append_right:=@List.getElem?_append_right
theorem zS:type_of% @World.ownsRow_nil:=@World.ownsRow_nil
theorem zT:type_of% @Nat.lt_of_lt_of_le:=@Nat.lt_of_lt_of_le
theorem zU:type_of% @Nat.zero_le:=@Nat.zero_le
theorem zV:type_of% @List.getElem_mem:=@List.getElem_mem
theorem zW:type_of% @List.take_length:=@List.take_length
theorem zX:type_of% @List.length_cons:=@List.length_cons
theorem zY:type_of% @List.take_add_one:=@List.take_add_one
theorem zZ:type_of% @Option.toList_some:=@Option.toList_some
theorem ZA:type_of% @List.map_append:=@List.map_append
theorem ZB:type_of% @Nat.eq_zero_or_pos:=@Nat.eq_zero_or_pos
theorem ZC:type_of% @List.append_nil:=@List.append_nil
theorem ZD:type_of% @List.mem_append:=@List.mem_append
theorem ZE:type_of% @List.mem_singleton:=@List.mem_singleton
theorem ZF:type_of% @Nat.le_trans:=@Nat.le_trans
theorem ZG:type_of% @Nat.zero_lt_succ:=@Nat.zero_lt_succ
theorem ZH:type_of% @List.mem_of_mem_take:=@List.mem_of_mem_take
theorem ZI:type_of% @List.map_nil:=@List.map_nil
theorem ZJ:type_of% @Nat.lt_or_ge:=@Nat.lt_or_ge
theorem ZK:type_of% @List.append_assoc:=@List.append_assoc
theorem ZL:type_of% @Nat.add_assoc:=@Nat.add_assoc
theorem ZM:type_of% @List.length_map:=@List.length_map
theorem ZN:type_of% @List.mem_map:=@List.mem_map
theorem ZO:type_of% @List.take_of_length_le:=@List.take_of_length_le
theorem ZP:type_of% @List.drop_eq_getElem_cons:=@List.drop_eq_getElem_cons
theorem ZQ:type_of% @List.drop_eq_nil_of_le:=@List.drop_eq_nil_of_le
theorem ZR:type_of% @List.take_append_drop:=@List.take_append_drop
theorem ZT:type_of% @List.length_take:=@List.length_take
theorem ZU:type_of% @List.length_drop:=@List.length_drop
theorem ZV:type_of% @List.getElem?_drop:=@List.getElem?_drop
theorem ZW:type_of% @List.length_take_le:=@List.length_take_le
theorem ZX:type_of% @Int.toNat_natCast:=@Int.toNat_natCast
theorem ZY:type_of% @List.length_append:=@List.length_append
theorem ZZ:type_of% @Nat.lt_of_le_of_lt:=@Nat.lt_of_le_of_lt
theorem xA:type_of% @Nat.le_refl:=@Nat.le_refl
theorem xB:type_of% @List.eq_nil_of_length_eq_zero:=@List.eq_nil_of_length_eq_zero
theorem xC:type_of% @List.length_singleton:=@List.length_singleton
theorem xD:type_of% @Nat.zero_lt_one:=@Nat.zero_lt_one
theorem xE:type_of% @List.cons_append:=@List.cons_append
theorem xF:type_of% @Option.map_eq_some_iff:=@Option.map_eq_some_iff
theorem xG:type_of% @List.drop_append_of_le_length:=@List.drop_append_of_le_length
theorem xH:type_of% @List.drop_of_length_le:=@List.drop_of_length_le
theorem xI:type_of% @List.mem_cons_of_mem:=@List.mem_cons_of_mem
theorem xJ:type_of% @List.mem_cons_self:=@List.mem_cons_self
theorem xK:type_of% @Nat.pow_succ:=@Nat.pow_succ
theorem xL:type_of% @List.flatMap_cons:=@List.flatMap_cons
theorem xM:type_of% @List.flatMap_append:=@List.flatMap_append
theorem xN:type_of% @Array.getElem?_eq_none:=@Array.getElem?_eq_none
theorem xO:type_of% @World.size_alloc:=@World.size_alloc
theorem xP:type_of% @List.size_toArray:=@List.size_toArray
theorem xQ:type_of% @List.take_left:=@List.take_left
theorem xR:type_of% @List.filter_append:=@List.filter_append
theorem xS:type_of% @List.mem_of_mem_drop:=@List.mem_of_mem_drop
theorem xU:type_of% @List.length_nil:=@List.length_nil
theorem xV:type_of% @Array.replicate_succ:=@Array.replicate_succ
theorem xW:type_of% @Array.replicate_zero:=@Array.replicate_zero
theorem xX:type_of% @List.push_toArray:=@List.push_toArray
theorem xY:type_of% @List.append_toArray:=@List.append_toArray
theorem xZ:type_of% @List.nil_append:=@List.nil_append
theorem XA:type_of% @List.getElem?_eq_some_iff:=@List.getElem?_eq_some_iff
theorem XB:type_of% @List.nodup_cons:=@List.nodup_cons
theorem XC:type_of% @List.getElem_cons_drop:=@List.getElem_cons_drop
theorem XD:type_of% @UInt8.toNat_ofNat':=@UInt8.toNat_ofNat'
theorem XE:type_of% @Array.getElem?_eq_getElem:=@Array.getElem?_eq_getElem
theorem XF:type_of% @List.length_filter_le:=@List.length_filter_le
theorem XG:type_of% @List.getElem_of_mem:=@List.getElem_of_mem
theorem XH:type_of% @List.take_append_of_le_length:=@List.take_append_of_le_length
theorem XI:type_of% @Nat.min_eq_left:=@Nat.min_eq_left
theorem XJ:type_of% @Nat.mul_le_mul_right:=@Nat.mul_le_mul_right
theorem XK:type_of% @List.length_set:=@List.length_set
theorem XL:type_of% @List.drop_drop:=@List.drop_drop
theorem XM:type_of% @Array.length_toList:=@Array.length_toList
theorem XO:type_of% @List.getElem?_set_ne:=@List.getElem?_set_ne
theorem XP:type_of% @List.getElem?_set_self:=@List.getElem?_set_self
theorem XQ:type_of% @List.getElem?_eq_none:=@List.getElem?_eq_none
theorem XR:type_of% @Bool.and_eq_true:=@Bool.and_eq_true
theorem XS:type_of% @List.lt_irrefl:=@List.lt_irrefl
theorem XT:type_of% @List.filter_cons_of_pos:=@List.filter_cons_of_pos
theorem XU:type_of% @List.mem_of_getElem?:=@List.mem_of_getElem?
theorem XV:type_of% @List.filter_sublist:=@List.filter_sublist
theorem XW:type_of% @List.pairwise_map:=@List.pairwise_map
theorem XX:type_of% @List.lt_trans:=@List.lt_trans
theorem XY:type_of% @List.length_pos_iff:=@List.length_pos_iff
theorem XZ:type_of% @List.filter_cons_of_neg:=@List.filter_cons_of_neg
theorem yA:type_of% @List.filter_eq_self:=@List.filter_eq_self
theorem yB:type_of% @List.filter_filter:=@List.filter_filter
theorem yC:type_of% @List.getElem?_cons_succ:=@List.getElem?_cons_succ
theorem yD:type_of% @Nat.lt_irrefl:=@Nat.lt_irrefl
theorem yE:type_of% @Nat.xor_lt_two_pow:=@Nat.xor_lt_two_pow
theorem yF:type_of% @Nat.add_sub_cancel_left:=@Nat.add_sub_cancel_left
theorem yG:type_of% @Classical.byContradiction:=@Classical.byContradiction
end Go.Proofs.YtnipbplghijdmaaGreatDoor
namespace Go.Proofs.YtnipbplghijdmaaGreatDoor.Rf
variable {a b k l q r t:List UInt8} {F i j most n num:Nat} {p:Nat×List UInt8} {ps:List (Nat×List UInt8)}
def big(n:Nat):Nat->List UInt8
 | 0=>[]
 | m+1=>big (n/256) m++[UInt8.ofNat (n%256)]
theorem ji(n m:Nat):(big n m).length=m:=by
 induction m generalizing n with
 | zero=>rfl
 | succ m ih=>simp[big,ih]
def j4(n:Nat):List UInt8:=if h:n<10 then [UInt8.ofNat (48+n)] else j4 (n/10)++[UInt8.ofNat (48+n%10)]
def bit(c:Nat):Nat:=if c%2=1 then(c/2) ^^^ 2197175160 else c/2
def bits:Nat->Nat->Nat
 | 0,c=>c
 | k+1,c=>bits k (bit c)
def Qs(c:Nat)(x:UInt8):Nat:=bits 8 (c ^^^ x.toNat)
def sum(l:List UInt8):Nat:=4294967295-l.foldl Qs 4294967295
def frame(l:List UInt8):List UInt8:=big l.length 4++big (sum l) 4++l
structure Ch where
 key:List UInt8
 value:List UInt8
 gone:Bool
def text(l:List UInt8):List UInt8:=big l.length 1++l
def entry(c:Ch):List UInt8:=if c.gone then 2::text c.key else 1::(text c.key++text c.value)
def jl:Nat->List (List Ch)->List UInt8
 | _,[]=>[]
 | last,b::r=>frame (big (last+1) 8++big b.length 1++b.flatMap entry)++jl (last+1) r
def wg(next last log base:Nat)(runs:List Nat):List UInt8:=frame (big next 8++big last 8++big log 8++big base 8++big runs.length 2++runs.flatMap fun r=>big r 8)
def number(l:List UInt8):Nat:=l.foldl (fun n x=>n*256+x.toNat) 0
theorem oj(l:List UInt8)(x:UInt8):number (l++[x])=number l*256+x.toNat:=by simp[number,zO]
theorem Jj(n m:Nat)(h:n<256^m):number (big n m)=n:=by
 induction m generalizing n with
 | zero=>simp at h;subst h;rfl
 | succ m ih =>
  have c:n/256<256^m:=by rw[Nat.div_lt_iff_lt_mul (by omega)];rw[xK] at h;exact h
  rw[big,oj,ih _ c];have b:(UInt8.ofNat (n%256)).toNat=n%256:=by simp[XD]
  rw[b];omega
theorem Yx(l:List UInt8):number l<256^l.length:=by
 have H:∀(l:List UInt8) (n:Nat),l.foldl (fun n x=>n*256+x.toNat) n<(n+1)*256^l.length:=by
  intro l
  induction l with
  | nil=>intro n;simp
  | cons x r ih =>
   intro n
   have d:x.toNat<256:=x.toNat_lt
   have c:=ih (n*256+x.toNat)
   have b:n*256+x.toNat+1<=(n+1)*256:=by omega
   calc (x::r).foldl (fun n x=>n*256+x.toNat) n=r.foldl (fun n x=>n*256+x.toNat) (n*256+x.toNat):=rfl
    _<(n*256+x.toNat+1)*256^r.length:=c
    _<=((n+1)*256)*256^r.length:=XJ _ b
    _=(n+1)*256^(x::r).length:=by rw[zX,xK,Nat.mul_assoc,Nat.mul_comm 256]
 have:=H l 0
 simpa [number] using this
theorem uk:∀(k:Nat) (l:List UInt8),l.length=k->big (number l) k=l:=by
 intro k
 induction k with
 | zero=>intro l c;rw[xB c];rfl
 | succ k ih =>
  intro l c;have b:l≠[]:=fun e=>by rw[e] at c;simp at c
  have e:l=l.dropLast++[l.getLast b]:=(List.dropLast_concat_getLast b).symm;have d:l.dropLast.length=k:=by simp[c]
  have j:(l.getLast b).toNat<256:=(l.getLast b).toNat_lt;have f:number l=number l.dropLast*256+(l.getLast b).toNat:=by rw[<-oj,<-e]
  have i:number l/256=number l.dropLast:=by rw[f];omega
  have g:number l%256=(l.getLast b).toNat:=by rw[f];omega
  rw[big,i,g,ih _ d]
  conv=>rhs;rw[e]
  simp
def qw(l:List UInt8):Option (List UInt8×List UInt8) :=
 if 8<=l.length/\8+number (l.take 4)<=l.length/\sum ((l.drop 8).take (number (l.take 4)))=number ((l.drop 4).take 4)then some ((l.drop 8).take (number (l.take 4)),l.drop (8+number (l.take 4)))else none
theorem tt(l:List UInt8):sum l<256^4:=by
 unfold sum;omega
theorem Xm(l r:List UInt8)(h:l.length<256^4):qw (frame l++r)=some (l,r):=by
 have c:(big l.length 4).length=4:=ji _ _;have b:(big (sum l) 4).length=4:=ji _ _
 have k:(frame l++r).take 4=big l.length 4:=by
  unfold frame;rw[ZK,ZK,XH (by omega),ZO (by omega)]
 have j:((frame l++r).drop 4).take 4=big (sum l) 4:=by
  unfold frame;rw[ZK,ZK,xG (by omega),xH (by omega),xZ,XH (by omega),ZO (by omega)]
 have d:(frame l++r).drop 8=l++r:=by
  unfold frame;rw[ZK];have:(big l.length 4++big (sum l) 4).length=8:=by simp[c,b]
  rw[xG (by omega),xH (by omega),xZ]
 have i:(frame l++r).length=8+l.length+r.length:=by unfold frame;simp[c,b];omega
 unfold qw;rw[k,j,d,Jj _ _ h,Jj _ _ (tt l),i];have g:(l++r).take l.length=l:=by simp
 rw[g];rw[if_pos ⟨by omega,by omega,rfl⟩]
 have f:(frame l++r).drop (8+l.length)=r:=by
  rw[<-XL,d];simp
 rw[f]
theorem th(h:qw l=some (b,r)):l=frame b++r:=by
 unfold qw at h
 split at h
 ·rename_i hc
  obtain⟨j,i,d⟩:=hc;cases h;have c:((l.drop 8).take (number (l.take 4))).length=number (l.take 4):=by simp;omega
  unfold frame;rw[c,d,uk 4 (l.take 4) (by simp;omega),uk 4 ((l.drop 4).take 4) (by simp;omega)];have g:l.take 4++(l.drop 4).take 4=l.take 8:=by rw[<-List.take_add]
  rw[g,ZK];have f:(l.drop 8).take (number (l.take 4))++l.drop (8+number (l.take 4))=l.drop 8:=by rw[<-XL,ZR]
  rw[f,ZR]
 ·cases h
def jy(l:List Ch):Prop:=l.Pairwise (fun a b=>a.key<b.key)
def ins(c:Ch):List Ch->List Ch
 | []=>[c]
 | x::r=>if c.key<x.key then c::x::r else if x.key=c.key then c::r else x::ins c r
theorem Uh{c x:Ch}{l:List Ch}(h:x∈ins c l):x=c\/x∈l:=by
 induction l with
 | nil=>simp[ins] at h;exact .inl h
 | cons y r ih =>
  unfold ins at h
  split at h
  ·rcases zH.1 h with h|h
   ·exact .inl h
   ·exact .inr h
  ·split at h
   ·rcases zH.1 h with h|h
    ·exact .inl h
    ·exact .inr (xI _ h)
   ·rcases zH.1 h with h|h
    ·exact .inr (h▸xJ)
    ·rcases ih h with h|h
     ·exact .inl h
     ·exact .inr (xI _ h)
theorem Yv{c:Ch}{l:List Ch}(h:jy l):jy (ins c l):=by
 induction l with
 | nil=>simp[ins,jy]
 | cons x r ih =>
  have g:=h;unfold jy at h;rw[zG] at h;obtain⟨d,f⟩:=h;unfold ins
  split
  ·rename_i hlt
   refine zG.2 ⟨fun y b=>?_,g⟩;rcases zH.1 b with rfl|b
   ·exact hlt
   ·exact XX hlt (d y b)
  ·split
   ·rename_i _ he
    exact zG.2 ⟨fun y b=>he▸d y b,f⟩
   ·rename_i hn he
    refine zG.2 ⟨fun y b=>?_,ih f⟩;rcases Uh b with rfl|b
    ·rcases Std.lt_trichotomy x.key y.key with h|h|h
     ·exact h
     ·exact absurd h he
     ·exact absurd h hn
    ·exact d y b
def z8(c:Ch)(s:List Ch×Bool)(x:Ch):List Ch×Bool :=
 let s1:=if s.2=false/\¬x.key<c.key then(s.1++[c],true)else s
 if x.key≠c.key then(s1.1++[x],s1.2)else s1
def od(c:Ch)(s:List Ch×Bool):List Ch:=if s.2=false then s.1++[c] else s.1
def put(l:List Ch)(c:Ch):List Ch:=od c (l.foldl (z8 c) ([],false))
theorem vt{c:Ch}{l out:List Ch}(h:∀ x∈l,x.key≠c.key):l.foldl (z8 c) (out,true)=(out++l,true):=by
 induction l generalizing out with
 | nil=>simp
 | cons x r ih =>
  have b:=h x xJ;rw[List.foldl_cons];have e:z8 c (out,true) x=(out++[x],true):=by simp[z8,b]
  rw[e,ih (fun y hy=>h y (xI _ hy))];simp
theorem N3{c:Ch}{l out:List Ch}(h:jy l):od c (l.foldl (z8 c) (out,false))=out++ins c l:=by
 induction l generalizing out with
 | nil=>simp[ins,od]
 | cons x r ih =>
  unfold jy at h;rw[zG] at h;obtain⟨f,i⟩:=h;rw[List.foldl_cons];unfold ins;by_cases hlt:c.key<x.key
  ·have d:¬x.key<c.key:=List.lt_asymm hlt
   have b:x.key≠c.key:=fun e=>XS x.key (by rw[e] at hlt;exact absurd hlt (XS _));have e:z8 c (out,false) x=(out++[c]++[x],true):=by simp[z8,d,b]
   rw[e,vt (fun y hy e=>by have:=XX hlt (f y hy);rw[e] at this;exact XS _ this),if_pos hlt];simp[od]
  ·rw[if_neg hlt]
   by_cases he:x.key=c.key
   ·rw[if_pos he]
    have d:¬x.key<c.key:=by rw[he];exact XS _
    have e:z8 c (out,false) x=(out++[c],true):=by simp[z8,he]
    rw[e,vt (fun y hy e=>XS c.key (by have:=f y hy;rw[he,e] at this;exact this))];simp[od]
   ·rw[if_neg he]
    have g:x.key<c.key:=by
     rcases Std.lt_trichotomy x.key c.key with h|h|h
     ·exact h
     ·exact absurd h he
     ·exact absurd h hlt
    have e:z8 c (out,false) x=(out++[x],false):=by simp[z8,g,he]
    rw[e,ih i];simp
theorem dt{c:Ch}{l:List Ch}(h:jy l):put l c=ins c l:=by
 have:=N3 (c:=c) (out:=[]) h;simpa [put] using this
def below(l:List Ch)(k:List UInt8):Nat:=(l.takeWhile (fun x=>decide (x.key<k))).length
def td(c:Ch)(l:List Ch):List Ch :=
 if (l[below l c.key]?).map Ch.key=some c.key then l.set (below l c.key) c else l.take (below l c.key)++c::l.drop (below l c.key)
theorem Wf{c:Ch}{l:List Ch}(h:jy l):td c l=ins c l:=by
 induction l with
 | nil=>simp[td,ins,below]
 | cons x r ih =>
  unfold jy at h;rw[zG] at h;obtain⟨j,i⟩:=h;by_cases hx:x.key<c.key
  ·have b:below (x::r) c.key=below r c.key+1:=by simp[below,hx]
   have e:td c (x::r)=x::td c r:=by
    unfold td;rw[b];simp only[yC,List.set_cons_succ,List.take_succ_cons,List.drop_succ_cons,xE]
    split<;>rfl
   rw[e,ih i];have f:¬c.key<x.key:=List.lt_asymm hx;have d:x.key≠c.key:=fun e=>by rw[e] at hx;exact XS _ hx
   simp[ins,f,d]
  ·have b:below (x::r) c.key=0:=by simp[below,hx]
   unfold td;rw[b];by_cases he:x.key=c.key
   ·have f:¬c.key<x.key:=by rw[he];exact XS _
    simp[ins,he]
   ·have g:c.key<x.key:=by
     rcases Std.lt_trichotomy x.key c.key with h|h|h
     ·exact absurd h hx
     ·exact absurd h he
     ·exact h
    simp[ins,g,he]
def over(l more:List Ch):List Ch:=more.foldl (fun l c=>put l c) l
def there(l:List Ch):List Ch:=l.filter (fun c=>!c.gone)
theorem J2{l more:List Ch}(h:jy l):jy (over l more):=by
 induction more generalizing l with
 | nil=>exact h
 | cons c r ih =>
  have e:over l (c::r)=over (put l c) r:=rfl;rw[e];exact ih (by rw[dt h];exact Yv h)
theorem Az(l more:List Ch)(c:Ch):over l (more++[c])=put (over l more) c:=by simp[over,zO]
def memory(bs:List (List Ch)):List Ch:=bs.foldl over []
theorem yv(bs:List (List Ch)):jy (memory bs):=by
 have H:∀(bs:List (List Ch)) (l:List Ch),jy l->jy (bs.foldl over l):=by
  intro bs
  induction bs with
  | nil=>intro l h;exact h
  | cons b r ih=>intro l h;exact ih _ (J2 h)
 exact H bs [] List.Pairwise.nil
theorem Of(bs:List (List Ch))(b:List Ch):memory (bs++[b])=over (memory bs) b:=by simp[memory,zO]
def xh(l:List Ch)(k:List UInt8):Option Ch:=l.find? (fun c=>decide (c.key=k))
def Xy(a b:List UInt8)(c:Ch):Bool:=decide (¬c.key<a)&&(decide (b=[])||decide (c.key<b))
def Zw(l:List Ch)(a b:List UInt8)(most:Nat):List Ch:=((there l).filter (Xy a b)).take most
theorem ui{l:List Ch}(h:jy l)(k:List UInt8):l.drop (below l k)=l.filter (fun c=>decide (¬c.key<k)):=by
 induction l with
 | nil=>simp[below]
 | cons x r ih =>
  unfold jy at h;rw[zG] at h;by_cases hx:x.key<k
  ·have b:below (x::r) k=below r k+1:=by simp[below,hx]
   rw[b];simp[ih h.2,hx]
  ·have b:below (x::r) k=0:=by simp[below,hx]
   rw[b];have d:∀ c∈r,¬c.key<k:=fun c hc e=>hx (XX (h.1 c hc) e);have:r.filter (fun c=>decide (¬c.key<k))=r:=yA.2 (fun c hc=>by simpa using d c hc);simp only[List.drop_zero];rw[XT (by simpa using hx),this]
theorem Wi{l:List Ch}(h:jy l)(k:List UInt8):xh l k=(l[below l k]?).filter (fun c=>decide (c.key=k)):=by
 induction l with
 | nil=>simp[xh,below]
 | cons x r ih =>
  unfold jy at h;rw[zG] at h;by_cases hx:x.key<k
  ·have b:below (x::r) k=below r k+1:=by simp[below,hx]
   have d:x.key≠k:=fun e=>by rw[e] at hx;exact XS _ hx
   rw[b,yC,<-ih h.2];simp[xh,d]
  ·have b:below (x::r) k=0:=by simp[below,hx]
   rw[b];by_cases he:x.key=k
   ·simp[xh,he,Option.filter]
   ·have f:∀ c∈r,c.key≠k:=fun c hc e=>hx (e▸h.1 c hc)
    have:xh r k=none:=List.find?_eq_none.2 (fun c hc=>by simpa using f c hc);simp[xh,he,Option.filter] at this ⊢;exact this
theorem takeWhile_filter{l:List Ch}(h:jy l)(b:List UInt8):l.takeWhile (fun c=>decide (b=[])||decide (c.key<b))=l.filter (fun c=>decide (b=[])||decide (c.key<b)):=by
 induction l with
 | nil=>rfl
 | cons x r ih =>
  unfold jy at h;rw[zG] at h;by_cases hx:(decide (b=[])||decide (x.key<b))=true
  ·rw[List.takeWhile_cons_of_pos (p:=fun c:Ch=>decide (b=[])||decide (c.key<b)) hx,XT (p:=fun c:Ch=>decide (b=[])||decide (c.key<b)) hx,ih h.2]
  ·have d:∀ c∈r,¬(decide (b=[])||decide (c.key<b))=true:=by
    intro c f e;simp at hx e;rcases e with e|e
    ·exact hx.1 e
    ·exact hx.2 (XX (h.1 c f) e)
   rw[List.takeWhile_cons_of_neg (p:=fun c:Ch=>decide (b=[])||decide (c.key<b)) hx,XZ (p:=fun c:Ch=>decide (b=[])||decide (c.key<b)) hx,List.filter_eq_nil_iff.2 d]
def allowed(c:Ch):Bool:=decide (1<=c.key.length)&&decide (c.key.length<=16)&&decide (c.value.length<=40)&&!(c.gone&&decide (c.value≠[]))
theorem xz(c:Ch):allowed c=true↔1<=c.key.length/\c.key.length<=16/\c.value.length<=40/\(c.gone=true->c.value=[]):=by
 unfold allowed;cases c.gone<;>simp[and_assoc]
def qy(b:List Ch):Bool:=decide (1<=b.length)&&decide (b.length<=8)&&b.all allowed
def xl:List UInt8->Option (List UInt8×List UInt8)
 | []=>none
 | n::r=>if n.toNat<=r.length then some (r.take n.toNat,r.drop n.toNat)else none
def zu:List UInt8->Option (Ch×List UInt8)
 | []=>none
 | k::r =>
  if k=1 then
   match xl r with
   | none=>none
   | some (key,r1) =>
    match xl r1 with
    | none=>none
    | some (v,r2)=>if allowed ⟨key,v,false⟩ then some (⟨key,v,false⟩,r2)else none
  else if k=2 then
   match xl r with
   | none=>none
   | some (key,r1)=>if allowed ⟨key,[],true⟩ then some (⟨key,[],true⟩,r1)else none
  else none
def qj:Nat->List UInt8->Option (List Ch×List UInt8)
 | 0,l=>some ([],l)
 | n+1,l =>
  match zu l with
  | none=>none
  | some (c,r) =>
   match qj n r with
   | none=>none
   | some (cs,r')=>some (c::cs,r')
def Jd(most:Nat):List UInt8->Option (List Ch)
 | []=>none
 | n::r=>if 1<=n.toNat/\n.toNat<=most then
     match qj n.toNat r with
     | some (cs,[])=>some cs
     | _=>none
  else none
def Yw(num:Nat)(l:List UInt8):Option (List Ch):=if 8<=l.length/\number (l.take 8)=num then Jd 8 (l.drop 8)else none
def zv(num:Nat)(l:List UInt8):Option (List Ch×List UInt8) :=
 match qw l with
 | none=>none
 | some (h,r) =>
  match Yw num h with
  | none=>none
  | some b=>some (b,r)
theorem rq(n:Nat):big n 1=[UInt8.ofNat (n%256)]:=by simp[big]
theorem Y5(h:t.length<256)(r:List UInt8):xl (text t++r)=some (t,r):=by
 have e:(UInt8.ofNat (t.length%256)).toNat=t.length:=by simp[XD];omega
 have b:text t++r=UInt8.ofNat (t.length%256)::(t++r):=by simp[text,rq]
 rw[b];simp only[xl,e];rw[if_pos (by simp)];simp
theorem Z9(h:xl l=some (t,r)):l=text t++r/\t.length<256:=by
 cases l with
 | nil=>simp[xl] at h
 | cons n q =>
  simp only[xl] at h
  split at h
  ·rename_i hn
   cases h;have b:n.toNat<256:=n.toNat_lt;have c:(q.take n.toNat).length=n.toNat:=by simp;omega
   refine⟨?_,by omega⟩;unfold text;rw[c,rq,Nat.mod_eq_of_lt b];simp
  ·cases h
theorem Cj{c:Ch}(h:allowed c=true)(r:List UInt8):zu (entry c++r)=some (c,r):=by
 obtain⟨k,v,g⟩:=c;have d:=(xz _).1 h;simp only at d
 cases g with
 | false =>
  have e:entry ⟨k,v,false⟩++r=1::(text k++(text v++r)):=by simp[entry]
  rw[e];simp only[zu,Y5 (show k.length<256 by omega),Y5 (show v.length<256 by omega),h];simp
 | true =>
  have f:v=[]:=d.2.2.2 rfl;subst f;have e:entry ⟨k,[],true⟩++r=2::(text k++r):=by simp[entry]
  rw[e];have b:¬(2:UInt8)=1:=by decide
  simp only[zu,if_neg b,Y5 (show k.length<256 by omega),h];simp
theorem I1{c:Ch}(h:zu l=some (c,r)):l=entry c++r/\allowed c=true:=by
 cases l with
 | nil=>simp[zu] at h
 | cons k q =>
  simp only[zu] at h
  split at h
  ·rename_i hk
   subst hk
   cases h1:xl q with
   | none=>rw[h1] at h;cases h
   | some p =>
    obtain⟨key,d⟩:=p;rw[h1] at h;simp only at h
    cases h2:xl d with
    | none=>rw[h2] at h;cases h
    | some p =>
     obtain⟨v,g⟩:=p;rw[h2] at h;simp only at h
     split at h
     ·rename_i ha
      cases h;have b:=(Z9 h1).1;have f:=(Z9 h2).1;refine⟨?_,ha⟩;rw[b,f];simp[entry]
     ·cases h
  ·split at h
   ·rename_i _ hk
    subst hk
    cases h1:xl q with
    | none=>rw[h1] at h;cases h
    | some p =>
     obtain⟨key,d⟩:=p;rw[h1] at h;simp only at h
     split at h
     ·rename_i ha
      cases h;have b:=(Z9 h1).1;refine⟨?_,ha⟩;rw[b];simp[entry]
     ·cases h
   ·cases h
theorem Am{cs:List Ch}(h:∀ c∈cs,allowed c=true)(r:List UInt8):qj cs.length (cs.flatMap entry++r)=some (cs,r):=by
 induction cs with
 | nil=>simp[qj]
 | cons c q ih =>
  have e:(c::q).flatMap entry++r=entry c++(q.flatMap entry++r):=by simp
  rw[e,zX,qj,Cj (h c xJ)];simp only[ih (fun x hx=>h x (xI _ hx))]
theorem Mh{cs:List Ch}(h:qj n l=some (cs,r)):l=cs.flatMap entry++r/\cs.length=n/\∀ c∈cs,allowed c=true:=by
 induction n generalizing l cs with
 | zero=>simp[qj] at h;obtain⟨rfl,rfl⟩:=h;simp
 | succ n ih =>
  rw[qj] at h
  cases h1:zu l with
  | none=>rw[h1] at h;cases h
  | some p =>
   obtain⟨c,q⟩:=p;rw[h1] at h;simp only at h
   cases h2:qj n q with
   | none=>rw[h2] at h;cases h
   | some p =>
    obtain⟨m,k⟩:=p;rw[h2] at h;cases h;obtain⟨j,i,g⟩:=ih h2;obtain⟨f,d⟩:=I1 h1;refine⟨by rw[f,j];simp,by simp[i],fun x b=>?_⟩;rcases zH.1 b with rfl|b
    ·exact d
    ·exact g x b
theorem gp{cs:List Ch}(d:1<=cs.length)(b:cs.length<=most)(f:most<256)(h:∀ c∈cs,allowed c=true):Jd most (big cs.length 1++cs.flatMap entry)=some cs:=by
 have e:(UInt8.ofNat (cs.length%256)).toNat=cs.length:=by simp[XD];omega
 rw[rq];simp only[List.singleton_append,Jd];rw[e,if_pos ⟨d,b⟩];have:=Am h [];rw[ZC] at this;rw[this]
theorem wj{cs:List Ch}(h:Jd most l=some cs):l=big cs.length 1++cs.flatMap entry/\1<=cs.length/\cs.length<=most/\∀ c∈cs,allowed c=true:=by
 cases l with
 | nil=>simp[Jd] at h
 | cons n q =>
  simp only[Jd] at h
  split at h
  ·rename_i hn
   split at h
   ·rename_i cs' h1
    cases h;obtain⟨g,f,d⟩:=Mh h1;have b:n.toNat<256:=n.toNat_lt;refine⟨?_,by omega,by omega,d⟩;rw[f,rq,Nat.mod_eq_of_lt b,g];simp
   ·cases h
  ·cases h
def jt(num:Nat)(b:List Ch):List UInt8:=frame (big num 8++big b.length 1++b.flatMap entry)
theorem Ac{c:Ch}(h:allowed c=true):(entry c).length<=59:=by
 have b:=(xz _).1 h;unfold entry
 split<;>simp[text,ji]<;>omega
theorem Jf{b:List Ch}(h:∀ c∈b,allowed c=true):(b.flatMap entry).length<=59*b.length:=by
 induction b with
 | nil=>simp
 | cons c r ih =>
  have f:=Ac (h c xJ);have d:=ih (fun x hx=>h x (xI _ hx));simp only[xL,ZY,zX];omega
theorem yd(b:List Ch):qy b=true↔1<=b.length/\b.length<=8/\∀ c∈b,allowed c=true:=by
 simp[qy,and_assoc]
theorem Dl{b:List Ch}(d:num<256^8)(h:qy b=true)(r:List UInt8):zv num (jt num b++r)=some (b,r):=by
 obtain⟨i,g,c⟩:=(yd b).1 h;have l:=Jf c;have f:(big num 8++big b.length 1++b.flatMap entry).length<256^4:=by rw[ZY,ZY,ji,ji];omega
 unfold zv jt;rw[Xm _ _ f];have m:(big num 8).length=8:=ji _ _
 have k:(big num 8++big b.length 1++b.flatMap entry).take 8=big num 8:=by
  rw[ZK,XH (by omega),ZO (by omega)]
 have j:(big num 8++big b.length 1++b.flatMap entry).drop 8=big b.length 1++b.flatMap entry:=by
  rw[ZK,xG (by omega),xH (by omega),xZ]
 simp only[Yw,k,j,Jj _ _ d,gp i g (by omega) c];simp[ji]
theorem dx{b:List Ch}(h:zv num l=some (b,r)):l=jt num b++r/\qy b=true:=by
 unfold zv at h
 cases h1:qw l with
 | none=>rw[h1] at h;cases h
 | some p =>
  obtain⟨x,q⟩:=p;rw[h1] at h;simp only at h
  cases h2:Yw num x with
  | none=>rw[h2] at h;cases h
  | some b' =>
   rw[h2] at h;cases h;unfold Yw at h2
   split at h2
   ·rename_i hc
    obtain⟨k,c⟩:=hc;obtain⟨j,i,g,f⟩:=wj h2;refine⟨?_,(yd b).2 ⟨i,g,f⟩⟩;rw[th h1];unfold jt;have d:big num 8=x.take 8:=by rw[<-c];exact uk 8 _ (by simp;omega)
    rw[d,ZK,<-j,ZR]
   ·cases h2
theorem fq(last:Nat)(bs:List (List Ch))(b:List Ch):jl last (bs++[b])=jl last bs++jt (last+bs.length+1) b:=by
 induction bs generalizing last with
 | nil=>simp[jl,jt]
 | cons x r ih =>
  simp only[xE,jl,ih,zX,ZK];rw[show last+1+r.length+1=last+(r.length+1)+1 by omega]
def jc4(last:Nat)(l:List UInt8):Nat->List (List Ch)->List UInt8->Prop
 | 0,bs,r=>bs=[]/\r=l
 | n+1,bs,r=>∃ cs q b,bs=cs++[b]/\jc4 last l n cs q/\last+cs.length<1000000000/\zv (last+cs.length+1) q=some (b,r)
def zz(last:Nat)(l:List UInt8)(bs:List (List Ch))(r:List UInt8):Prop:=∃ n,jc4 last l n bs r
theorem zz.none{last:Nat}:zz last l [] l:=⟨0,rfl,rfl⟩
theorem zz.more{last:Nat}{bs:List (List Ch)}{b:List Ch}{c:List UInt8}(h:zz last l bs r)(f:last+bs.length<1000000000)(d:zv (last+bs.length+1) r=some (b,c)):zz last l (bs++[b]) c:=by
 obtain⟨n,h⟩:=h;exact⟨n+1,bs,r,b,rfl,h,f,d⟩
theorem zz.elim{last:Nat}{M:List (List Ch)->List UInt8->Prop}(i:M [] l)(g:∀ bs r b r',zz last l bs r->last+bs.length<1000000000->zv (last+bs.length+1) r=some (b,r')->M bs r->M (bs++[b]) r'){bs:List (List Ch)}(h:zz last l bs r):M bs r:=by
 obtain⟨n,h⟩:=h
 induction n generalizing bs r with
 | zero=>obtain⟨rfl,rfl⟩:=h;exact i
 | succ n ih =>
  obtain⟨cs,q,b,rfl,c,f,d⟩:=h;exact g cs q b r ⟨n,c⟩ f d (ih c)
theorem zz.inv{last:Nat}{bs:List (List Ch)}(h:zz last l bs r):(bs=[]/\r=l)\/∃ cs q b,bs=cs++[b]/\zz last l cs q/\last+cs.length<1000000000/\zv (last+cs.length+1) q=some (b,r):=by
 obtain⟨n,h⟩:=h
 cases n with
 | zero=>exact .inl h
 | succ n =>
  obtain⟨cs,q,b,e,f,d,c⟩:=h;exact .inr ⟨cs,q,b,e,⟨n,f⟩,d,c⟩
def Over(last:Nat)(bs:List (List Ch))(r:List UInt8):Prop:=¬last+bs.length<1000000000\/zv (last+bs.length+1) r=none
theorem zz.bytes{last:Nat}{bs:List (List Ch)}(h:zz last l bs r):l=jl last bs++r/\∀ b∈bs,qy b=true:=by
 refine zz.elim (M:=fun bs r=>l=jl last bs++r/\∀ b∈bs,qy b=true) ⟨rfl,fun _ h=>by cases h⟩ ?_ h
 ·intro bs r b i k j d ih
  obtain⟨g,f⟩:=dx d;refine⟨?_,fun x c=>?_⟩
  ·rw[fq,ZK,<-g];exact ih.1
  ·rcases ZD.1 c with c|c
   ·exact ih.2 x c
   ·rw[ZE.1 c];exact f
theorem zz.pfx{last:Nat}{bs cs:List (List Ch)}(h:zz last l bs r)(k:zz last l cs q)(d:bs.length=cs.length):bs=cs/\r=q:=by
 refine zz.elim (M:=fun bs r=>∀ cs q,zz last l cs q->bs.length=cs.length->bs=cs/\r=q) ?_ ?_ h cs q k d
 ·intro cs q k d
  rcases k.inv with⟨rfl,rfl⟩|⟨f,g,b,rfl,_⟩
  ·exact⟨rfl,rfl⟩
  ·simp at d
 ·intro bs r b n s p m ih cs q k d
  rcases k.inv with⟨rfl,rfl⟩|⟨f,g,c,rfl,j,o,i⟩
  ·simp at d
  ·obtain⟨rfl,rfl⟩:=ih f g j (by simpa using d)
   rw[m] at i;cases i;exact⟨rfl,rfl⟩
theorem zz.less{last:Nat}{bs:List (List Ch)}(h:zz last l bs r):∀ n,n<=bs.length->∃ cs q,zz last l cs q/\cs.length=n/\(n<bs.length->∃ b q',last+n<1000000000/\zv (last+n+1) q=some (b,q')):=by
 refine zz.elim (M:=fun bs r=>∀ n,n<=bs.length->∃ cs q,zz last l cs q/\cs.length=n/\(n<bs.length->∃ b q',last+n<1000000000/\zv (last+n+1) q=some (b,q'))) ?_ ?_ h
 ·intro n c;simp at c;exact⟨[],l,.none,by simp[c],by simp⟩
 ·intro bs r b d k j i ih n c
  by_cases h:n<=bs.length
  ·obtain⟨cs,q,g,f,m⟩:=ih n h
   refine⟨cs,q,g,f,fun _=>?_⟩;by_cases he:n<bs.length
   ·exact m he
   ·have e:cs.length=bs.length:=by omega
    obtain⟨rfl,rfl⟩:=g.pfx k e;subst f;exact⟨b,d,j,i⟩
  ·have e:n=(bs++[b]).length:=by simp at c ⊢;omega
   exact⟨bs++[b],d,.more k j i,e.symm,by omega⟩
theorem zz.unique{last:Nat}{bs cs:List (List Ch)}(h:zz last l bs r)(c:Over last bs r)(k:zz last l cs q)(g:Over last cs q):bs=cs/\r=q:=by
 have H:∀ {bs cs:List (List Ch)} {r q:List UInt8},zz last l bs r->Over last bs r->zz last l cs q->¬bs.length<cs.length:=by
  intro bs cs r q h c k d;obtain⟨u,p,m,j,i⟩:=k.less bs.length (by omega);obtain⟨b,o,n,f⟩:=i d;obtain⟨rfl,rfl⟩:=h.pfx m j.symm;rcases c with c|c
  ·exact c n
  ·rw[c] at f;cases f
 have e:bs.length=cs.length:=by
  have t:=H h c k;have s:=H k g h;omega
 exact h.pfx k e
theorem U3{last:Nat}{bs:List (List Ch)}(h:∀ b∈bs,qy b=true)(j:last+bs.length<=1000000000)(r:List UInt8):zz last (jl last bs++r) bs r:=by
 have H:∀(q bs:List (List Ch)),(∀ b∈bs++q,qy b=true)->last+(bs++q).length<=1000000000->∀ c,zz last (jl last (bs++q)++r) bs (c)->c=jl (last+bs.length) q++r->zz last (jl last (bs++q)++r) (bs++q) r:=by
  intro q
  induction q with
  | nil=>intro bs _ _ c h e;simp[jl] at e;subst e;simpa using h
  | cons b q ih =>
   intro bs f d c h e;have l:bs++b::q=(bs++[b])++q:=by simp
   have g:qy b=true:=f b (by simp);simp only[ZY,zX] at d
   have k:zv (last+bs.length+1) c=some (b,jl (last+bs.length+1) q++r):=by
    rw[e];simp only[jl,ZK];have:=Dl (num:=last+bs.length+1) (by omega) g (jl (last+bs.length+1) q++r);simpa [jt] using this
   have i:=zz.more h (by omega) k;rw[l] at i f ⊢;refine ih (bs++[b]) f (by simp;omega) _ i ?_;simp[ZL]
 have:=H bs [] (by simpa using h) (by simpa using j) _ .none (by simp);simpa using this
theorem Ly(last:Nat)(bs:List (List Ch)):Over last bs []:=by
 refine .inr ?_;simp[zv,qw]
structure Man where
 next:Nat
 last:Nat
 log:Nat
 base:Nat
 runs:List Nat
def Man.settled(m:Man):List Nat:=if m.base=0 then m.runs else m.runs++[m.base]
def Man.numbers(m:Man):List Nat:=m.settled++[m.log]
abbrev Man.Good(m:Man):Prop:=m.next<=2000000000/\m.last<=1000000000/\(∀ n∈m.numbers,1<=n/\n<m.next)/\m.numbers.Nodup
def Man.bytes(m:Man):List UInt8:=wg m.next m.last m.log m.base m.runs
def zg:Nat->List UInt8->List Nat
 | 0,_=>[]
 | n+1,l=>number (l.take 8)::zg n (l.drop 8)
def vr(l:List UInt8):Option Man :=
 match qw l with
 | none=>none
 | some (h,r) =>
  if r=[]/\34<=h.length/\h.length=34+8*number ((h.drop 32).take 2)then
   let m:Man:=⟨number (h.take 8),number ((h.drop 8).take 8),number ((h.drop 16).take 8),number ((h.drop 24).take 8),zg (number ((h.drop 32).take 2)) (h.drop 34)⟩
   if m.Good then some m else none
  else none
theorem Is{rs:List Nat}(h:∀ r∈rs,r<256^8)(q:List UInt8):zg rs.length (rs.flatMap (fun r=>big r 8)++q)=rs:=by
 induction rs with
 | nil=>rfl
 | cons x r ih =>
  have b:(big x 8).length=8:=ji _ _;simp only[zX,zg,xL,ZK];rw[XH (by omega),ZO (by omega),Jj _ _ (h x xJ),xG (by omega),xH (by omega),xZ,ih (fun y hy=>h y (xI _ hy))]
theorem Co(n:Nat)(l:List UInt8):(zg n l).length=n:=by
 induction n generalizing l with
 | zero=>rfl
 | succ n ih=>simp[zg,ih]
theorem Man.Good.bounds{m:Man}(h:m.Good):m.next<256^8/\m.last<256^8/\m.log<256^8/\m.base<256^8/\∀ r∈m.runs,r<256^8:=by
 obtain⟨g,f,b,d⟩:=h;have c:=b m.log (by simp[Man.numbers]);refine⟨by omega,by omega,by omega,?_,fun r hr=>?_⟩
 ·by_cases hb:m.base=0
  ·omega
  ·have:=b m.base (by simp[Man.numbers,Man.settled,hb])
   omega
 ·have:=b r (by unfold Man.numbers Man.settled;split<;>simp[hr])
  omega
theorem Ij{m:Man}(h:m.Good)(p:m.runs.length<65536):vr m.bytes=some m:=by
 obtain⟨H,G,z,y,l⟩:=h.bounds;obtain⟨next,last,log,base,runs⟩:=m;simp only at H G z y l p;have k:(big next 8).length=8:=ji _ _;have j:(big last 8).length=8:=ji _ _;have i:(big log 8).length=8:=ji _ _;have g:(big base 8).length=8:=ji _ _;have f:(big runs.length 2).length=2:=ji _ _
 have J:(runs.flatMap fun r=>big r 8).length=8*runs.length:=by
  clear l p h f
  induction runs with
  | nil=>rfl
  | cons x r ih=>simp[xL,ji,ih];omega
 generalize hA:big next 8=A at *
 generalize hB:big last 8=B at *
 generalize hC:big log 8=C at *
 generalize hD:big base 8=D at *
 generalize hE:big runs.length 2=E at *
 generalize hF:(runs.flatMap fun r=>big r 8)=F at *
 have L:Man.bytes ⟨next,last,log,base,runs⟩=frame (A++(B++(C++(D++(E++F))))):=by
  simp[Man.bytes,wg,hA,hB,hC,hD,hE,hF]
 have b:(A++(B++(C++(D++(E++F))))).length=34+8*runs.length:=by simp[k,j,i,g,f,J];omega
 have c:∀(X Y:List UInt8) n,X.length=n->(X++Y).take n=X:=fun X Y n e=>by subst e;simp
 have d:∀(X Y:List UInt8) n,X.length=n->(X++Y).drop n=Y:=fun X Y n e=>by subst e;simp
 have v:=d A (B++(C++(D++(E++F)))) 8 k;have u:(A++(B++(C++(D++(E++F))))).drop 16=C++(D++(E++F)):=by rw[show 16=8+8 from rfl,<-XL,v,d B _ 8 j]
 have t:(A++(B++(C++(D++(E++F))))).drop 24=D++(E++F):=by rw[show 24=16+8 from rfl,<-XL,u,d C _ 8 i]
 have s:(A++(B++(C++(D++(E++F))))).drop 32=E++F:=by rw[show 32=24+8 from rfl,<-XL,t,d D _ 8 g]
 have M:(A++(B++(C++(D++(E++F))))).drop 34=F:=by rw[show 34=32+2 from rfl,<-XL,s,d E _ 2 f]
 have q:=Xm (A++(B++(C++(D++(E++F))))) [] (by rw[b];omega);rw[ZC] at q;have o:number E=runs.length:=by rw[<-hE];exact Jj _ _ (by omega)
 unfold vr;rw[L,q];simp only[v,u,t,s,M,c A _ 8 k,c B _ 8 j,c C _ 8 i,c D _ 8 g,c E _ 2 f,o,b];rw[if_pos ⟨trivial,by omega,trivial⟩]
 have I:zg runs.length F=runs:=by
  have:=Is l [];rw[ZC,hF] at this;exact this
 rw[I,<-hA,<-hB,<-hC,<-hD,Jj _ _ H,Jj _ _ G,Jj _ _ z,Jj _ _ y,if_pos h]
theorem rj(a b:List UInt8):a<b\/a=b\/b<a:=Std.lt_trichotomy a b
theorem ft(h:a<b):a≠b:=fun e=>by rw[e] at h;exact XS _ h
theorem wo(h:a<b):¬b<a:=fun k=>XS _ (XX h k)
theorem qm(x:Ch)(l:List Ch)(k:List UInt8):xh (x::l) k=if x.key=k then some x else xh l k:=by
 unfold xh;by_cases h:x.key=k<;>simp[h]
theorem Wj{l:List Ch}{c:Ch}(h:xh l k=some c):c.key=k:=by
 have:=List.find?_some h;simpa using this
theorem rm{l:List Ch}{c:Ch}(h:xh l k=some c):c∈l:=List.mem_of_find?_eq_some h
theorem Y1{l:List Ch}(h:∀ c∈l,c.key≠k):xh l k=none:=List.find?_eq_none.2 (fun c hc=>by simpa using h c hc)
theorem ku{l:List Ch}(h:jy l){c:Ch}(b:c∈l):xh l c.key=some c:=by
 induction l with
 | nil=>cases b
 | cons x r ih =>
  unfold jy at h;rw[zG] at h;rw[qm];rcases zH.1 b with rfl|b
  ·simp
  ·rw[if_neg (ft (h.1 c b)),ih h.2 b]
theorem Rp{a b:List Ch}(f:jy a)(d:jy b)(h:∀ k,xh a k=xh b k):a=b:=by
 induction a generalizing b with
 | nil =>
  cases b with
  | nil=>rfl
  | cons y s =>
   have:=h y.key;rw[qm,if_pos rfl] at this;cases this
 | cons x r ih =>
  cases b with
  | nil =>
   have:=h x.key;rw[qm,if_pos rfl] at this;cases this
  | cons y s =>
   have o:=f;have n:=d;unfold jy at f d;rw[zG] at f d
   have m:¬x.key<y.key:=fun hlt=>by
    have:=h x.key;rw[qm,if_pos rfl,qm,if_neg (fun e=>ft hlt e.symm),Y1 (l:=s) (k:=x.key) (fun c hc e=>wo hlt (by have:=d.1 c hc;rwa [e] at this))] at this;cases this
   have j:¬y.key<x.key:=fun hlt=>by
    have:=h y.key;rw[qm,if_neg (fun e=>ft hlt e.symm),Y1 (l:=r) (k:=y.key) (fun c hc e=>wo hlt (by have:=f.1 c hc;rwa [e] at this)),qm,if_pos rfl] at this;cases this
   have i:x.key=y.key:=(rj x.key y.key).elim (fun h=>(m h).elim) (fun h=>h.elim id (fun h=>(j h).elim))
   have g:x=y:=by
    have:=h x.key;rw[qm,if_pos rfl,qm,if_pos i.symm] at this;exact Option.some.inj this
   subst g;refine congrArg _ (ih f.2 d.2 (fun k=>?_));by_cases hk:x.key=k
   ·rw[Y1 (fun c hc e=>ft (f.1 c hc) (hk.trans e.symm)),Y1 (fun c hc e=>ft (d.1 c hc) (hk.trans e.symm))]
   ·have:=h k
    rw[qm,if_neg hk,qm,if_neg hk] at this;exact this
theorem Wk{l:List Ch}(h:jy l)(c:Ch)(k:List UInt8):xh (ins c l) k=if c.key=k then some c else xh l k:=by
 induction l with
 | nil=>simp[ins,qm]
 | cons x r ih =>
  unfold jy at h;rw[zG] at h;unfold ins
  split
  ·rw[qm]
  ·split
   ·rename_i _ he
    rw[qm];by_cases hk:c.key=k
    ·rw[if_pos hk,if_pos hk]
    ·rw[if_neg hk,if_neg hk,qm,if_neg (fun e=>hk (he.symm.trans e))]
   ·rename_i hn he
    rw[qm,ih h.2,qm];by_cases hk:c.key=k
    ·rw[if_pos hk,if_pos hk,if_neg (fun e=>he (e.trans hk.symm))]
    ·rw[if_neg hk,if_neg hk]
theorem Ss{l more:List Ch}(h:jy l)(b:jy more)(k:List UInt8):xh (over l more) k=(xh more k).or (xh l k):=by
 induction more generalizing l with
 | nil=>simp[over,xh]
 | cons x r ih =>
  unfold jy at b;rw[zG] at b;have e:over l (x::r)=over (ins x l) r:=by simp[over,dt h]
  rw[e,ih (Yv h) b.2,Wk h,qm];by_cases hk:x.key=k
  ·rw[if_pos hk,if_pos hk,Y1 (fun c hc e=>ft (b.1 c hc) (hk.trans e.symm))]
   rfl
  ·rw[if_neg hk,if_neg hk]
def merged(ls:List (List Ch)):List Ch:=ls.foldr (fun l acc=>over acc l) []
theorem Qx(l:List Ch)(ls:List (List Ch)):merged (l::ls)=over (merged ls) l:=rfl
theorem yu(ls:List (List Ch)):jy (merged ls):=by
 induction ls with
 | nil=>exact List.Pairwise.nil
 | cons l ls ih=>exact J2 ih
def lf(ls:List (List Ch))(k:List UInt8):Option Ch:=ls.foldr (fun l acc=>(xh l k).or acc) none
theorem Q9(l:List Ch)(ls:List (List Ch))(k:List UInt8):lf (l::ls) k=(xh l k).or (lf ls k):=rfl
theorem Ym{ls:List (List Ch)}(h:∀ l∈ls,jy l)(k:List UInt8):xh (merged ls) k=lf ls k:=by
 induction ls with
 | nil=>rfl
 | cons l ls ih =>
  rw[Qx,Ss (yu ls) (h l xJ),Q9,ih (fun x hx=>h x (xI _ hx))]
theorem Y6{l:List Ch}(h:jy l)(p:Ch->Bool):jy (l.filter p):=h.sublist XV
theorem wz{l:List Ch}(q:List UInt8->Bool)(k:List UInt8):xh (l.filter (fun c=>q c.key)) k=if q k then xh l k else none:=by
 induction l with
 | nil=>simp[xh]
 | cons x r ih =>
  by_cases hx:q x.key=true
  ·rw[XT (by exact hx),qm,qm,ih]
   by_cases hk:x.key=k
   ·rw[if_pos hk,if_pos hk,<-hk,hx];rfl
   ·rw[if_neg hk,if_neg hk]
  ·rw[XZ (by exact hx),ih,qm]
   by_cases hk:x.key=k
   ·rw[if_pos hk,<-hk];simp at hx;simp[hx]
   ·rw[if_neg hk]
theorem sx{ls:List (List Ch)}(h:∀ l∈ls,jy l)(q:List UInt8->Bool):merged (ls.map (fun l=>l.filter (fun c=>q c.key)))=(merged ls).filter (fun c=>q c.key):=by
 refine Rp (yu _) (Y6 (yu _) _) (fun k=>?_);rw[wz q,Ym h,Ym (fun l hl=>by obtain⟨x,b,rfl⟩:=ZN.1 hl;exact Y6 (h x b) _)]
 induction ls with
 | nil=>simp[lf]
 | cons l ls ih =>
  rw[zI,Q9,Q9,ih (fun x b=>h x (xI _ b)),wz q];cases q k<;>simp
structure Source where
 entries:List Ch
 age:Nat
def Source.top(s:Source):List UInt8:=(s.entries.head?.map Ch.key).getD []
def Source.less(a b:Source):Bool:=decide (a.top<b.top)||(decide (a.top=b.top)&&decide (a.age<b.age))
theorem Source.Bw(a:Source):a.less a=false:=by simp[Source.less,XS]
theorem Source.Sg{a b c:Source}(h:a.less b=true)(k:b.less c=true):a.less c=true:=by
 simp[Source.less] at h k ⊢;rcases h with h|⟨h,d⟩
 ·rcases k with k|⟨k,_⟩
  ·exact .inl (XX h k)
  ·exact .inl (k▸h)
 ·rcases k with k|⟨k,k'⟩
  ·exact .inl (h▸k)
  ·exact .inr ⟨h.trans k,by omega⟩
def Source.le(a b:Source):Prop:=b.less a=false
theorem Source.le_refl(a:Source):a.le a:=a.Bw
theorem Source.ue{a b:Source}(h:a.less b=true):a.le b:=by
 unfold Source.le
 cases e:b.less a with
 | false=>rfl
 | true=>have:=Source.Sg h e;rw[Source.Bw] at this;cases this
theorem Source.le_trans{a b c:Source}(h:a.le b)(k:b.le c):a.le c:=by
 unfold Source.le at *
 cases e:c.less a with
 | false=>rfl
 | true =>
  simp[Source.less] at h k e;rcases e with e|⟨e,g⟩
  ·rcases rj a.top b.top with q|q|q
   ·exact(k.1 (XX e q)).elim
   ·exact(k.1 (q▸e)).elim
   ·exact(h.1 q).elim
  ·rcases rj a.top b.top with q|q|q
   ·exact(k.1 (e▸q)).elim
   ·have f:=h.2 q.symm
    have d:=k.2 (e.trans q);omega
   ·exact(h.1 q).elim
def Jv(l:List Source)(n:Nat):Prop:=∀(j:Nat) (a b:Source),0<j->j<n->l[(j-1)/2]?=some a->l[j]?=some b->a.le b
structure ij(l:List Source)(j:Nat):Prop where
 other:∀(k:Nat) (a b:Source),0<k->k≠j->l[(k-1)/2]?=some a->l[k]?=some b->a.le b
 below:∀(k:Nat) (a b:Source),0<k->0<j->(k-1)/2=j->l[(j-1)/2]?=some a->l[k]?=some b->a.le b
theorem C1{l:List Source}{a b:Source}(hi:i<l.length)(c:j<l.length)(d:i≠j)(k:Nat) :
 ((l.set i b).set j a)[k]?=if k=j then some a else if k=i then some b else l[k]?:=by
 rw[List.getElem?_set];by_cases h1:j=k
 ·rw[if_pos h1,if_pos (by simpa using c),if_pos h1.symm]
 ·rw[if_neg h1,if_neg (fun e:k=j=>h1 e.symm),List.getElem?_set]
  by_cases h2:i=k
  ·rw[if_pos h2,if_pos hi,if_pos h2.symm]
  ·rw[if_neg h2,if_neg (fun e:k=i=>h2 e.symm)]
theorem Zj{l:List Source}{a:Source}(h:l[i]?=some a):i<l.length:=(XA.1 h).1
theorem ij.start{l:List Source}{x:Source}(h:Jv l l.length):ij (l++[x]) l.length:=by
 refine⟨fun k a b h0 hk ha hb=>?_,fun k a b h0 h1 hk ha hb=>?_⟩
 ·have c:=Zj hb
  simp at c;rw[zQ (by omega)] at ha hb;exact h k a b h0 (by omega) ha hb
 ·have c:=Zj hb
  simp at c;omega
theorem ij.done{l:List Source}(h:ij l j)(f:j=0\/∃ a b,l[(j-1)/2]?=some a/\l[j]?=some b/\b.less a=false):Jv l l.length:=by
 intro k a b n o i g;by_cases e:k=j
 ·subst e
  rcases f with f|⟨x,y,d,c,m⟩
  ·omega
  ·rw[i] at d;cases d
   rw[g] at c;cases c;exact m
 ·exact h.other k a b n e i g
theorem ij.step{l:List Source}{a b:Source}(h:ij l j)(o:0<j)(d:l[(j-1)/2]?=some a)(p:l[j]?=some b)(n:b.less a=true):ij ((l.set ((j-1)/2) b).set j a) ((j-1)/2):=by
 have i:=Zj d;have g:=Zj p;have c:(j-1)/2≠j:=by omega
 have m:=Source.ue n;refine⟨fun k x y h0 hk hx hy=>?_,fun k x y h0 h1 hk hx hy=>?_⟩
 ·rw[C1 i g c] at hx hy
  by_cases e1:k=j
  ·subst e1
   rw[if_neg c,if_pos rfl] at hx;rw[if_pos rfl] at hy;cases hx;cases hy;exact m
  ·rw[if_neg e1,if_neg hk] at hy
   by_cases e2:(k-1)/2=j
   ·rw[if_pos e2] at hx
    cases hx;exact h.below k _ y h0 o e2 d hy
   ·rw[if_neg e2] at hx
    by_cases e3:(k-1)/2=(j-1)/2
    ·rw[if_pos e3] at hx
     cases hx;exact Source.le_trans m (h.other k a y h0 e1 (e3▸d) hy)
    ·rw[if_neg e3] at hx
     exact h.other k x y h0 e1 hx hy
 ·rw[C1 i g c] at hx hy
  rw[if_neg (by omega),if_neg (by omega)] at hx;have f:=h.other _ _ _ h1 c hx d;by_cases e1:k=j
  ·rw[if_pos e1] at hy
   cases hy;exact f
  ·rw[if_neg e1,if_neg (by omega)] at hy
   exact Source.le_trans f (h.other k a y h0 e1 (hk▸d) hy)
structure J4(l:List Source)(i n:Nat):Prop where
 other:∀(k:Nat) (a b:Source),0<k->k<n->(k-1)/2≠i->l[(k-1)/2]?=some a->l[k]?=some b->a.le b
 below:∀(k:Nat) (a b:Source),0<k->k<n->0<i->(k-1)/2=i->l[(i-1)/2]?=some a->l[k]?=some b->a.le b
theorem J4.start{l:List Source}{x:Source}(h:Jv l n):J4 (l.set 0 x) 0 n:=by
 refine⟨fun k a b h0 hk hne ha hb=>?_,fun k a b h0 hk hi _ _ _=>by omega⟩;rw[XO (by omega)] at ha hb;exact h k a b h0 hk ha hb
theorem J4.none{l:List Source}(h:J4 l i n)(j:n<=2*i+1):Jv l n:=by
 intro k a b g c f d;exact h.other k a b g c (by omega) f d
theorem J4.done{l:List Source}{a b:Source}(h:J4 l i n)(s:j=2*i+1\/j=2*i+2)(r:j<n)(p:l[i]?=some a)(t:l[j]?=some b)(o:b.less a=false)(m:∀ k c,(k=2*i+1\/k=2*i+2)->k<n->l[k]?=some c->b.le c):Jv l n:=by
 intro k x y q g d f;by_cases e:(k-1)/2=i
 ·rw[e,p] at d
  cases d;exact Source.le_trans (b:=b) o (m k y (by omega) g f)
 ·exact h.other k x y q g e d f
theorem J4.step{l:List Source}{a b:Source}(h:J4 l i n)(t:j=2*i+1\/j=2*i+2)(o:j<n)(s:l[i]?=some a)(m:l[j]?=some b)(r:b.less a=true)(q:∀ k c,(k=2*i+1\/k=2*i+2)->k<n->l[k]?=some c->b.le c):J4 ((l.set i b).set j a) j n:=by
 have g:=Zj s;have f:=Zj m;have d:i≠j:=by omega
 have p:=Source.ue r;refine⟨fun k x y h0 hk hkj hx hy=>?_,fun k x y h0 hk h1 hkj hx hy=>?_⟩
 ·rw[C1 g f d] at hx hy
  rw[if_neg hkj] at hx;by_cases e1:(k-1)/2=i
  ·rw[if_pos e1] at hx
   cases hx;by_cases e2:k=j
   ·rw[if_pos e2] at hy
    cases hy;exact p
   ·rw[if_neg e2,if_neg (by omega)] at hy
    exact q k y (by omega) hk hy
  ·rw[if_neg e1] at hx
   by_cases e2:k=j
   ·omega
   ·rw[if_neg e2] at hy
    by_cases e3:k=i
    ·rw[if_pos e3] at hy
     cases hy;subst e3;exact h.below j x b (by omega) o h0 (by omega) hx m
    ·rw[if_neg e3] at hy
     exact h.other k x y h0 hk e1 hx hy
 ·rw[C1 g f d] at hx hy
  rw[if_neg (by omega),if_pos (by omega)] at hx;cases hx;rw[if_neg (by omega),if_neg (by omega)] at hy;exact h.other k b y h0 hk (by omega) (hkj▸m) hy
theorem Jv.top{s:Source}{r:List Source}(h:Jv (s::r) (s::r).length):∀ t∈s::r,s.le t:=by
 have H:∀(n k:Nat) (t:Source),k<=n->(s::r)[k]?=some t->s.le t:=by
  intro n
  induction n with
  | zero=>intro k t c b;obtain rfl:k=0:=by omega
          cases b;exact Source.le_refl _
  | succ n ih =>
   intro k t c b;by_cases h0:k=0
   ·subst h0;cases b;exact Source.le_refl _
   ·have d:=Zj b
    obtain⟨a,f⟩:∃ a,(s::r)[(k-1)/2]?=some a:=⟨_,zL (by omega)⟩;exact Source.le_trans (ih _ a (by omega) f) (h k a t (by omega) d f b)
 intro t b;obtain⟨k,c,e⟩:=XG b;exact H k k t (xA _) (by rw[zL c,e])
structure pn(hs:List Source)(last:List UInt8):Prop where
 some:∀ s∈hs,s.entries≠[]
 rising:∀ s∈hs,jy s.entries
 jf7:hs.Pairwise (fun s t=>s.age≠t.age)
 keys:∀ s∈hs,∀ c∈s.entries,¬c.key<last
structure Tells(hs:List Source)(last:List UInt8)(L:List Ch):Prop where
 rising:jy L
 behind:∀ c∈L,last<c.key
 has:∀ k c,last<k->(xh L k=Option.some c↔∃ s∈hs,xh s.entries k=Option.some c/\∀ t∈hs,t.age<s.age->xh t.entries k=none)
theorem pn.perm{b c:List Source}{last:List UInt8}(h:pn b last)(p:b.Perm c):pn c last :=
 ⟨fun s hs'=>h.some s (p.mem_iff.2 hs'),fun s hs'=>h.rising s (p.mem_iff.2 hs'),(p.pairwise_iff (fun e=>Ne.symm e)).1 h.jf7,fun s hs'=>h.keys s (p.mem_iff.2 hs')⟩
theorem Tells.perm{g i:List Source}{last:List UInt8}{L:List Ch}(h:Tells g last L)(p:g.Perm i):Tells i last L:=by
 refine⟨h.rising,h.behind,fun k c hk=>(h.has k c hk).trans ?_⟩;constructor
 ·rintro⟨s,b,f,d⟩;exact⟨s,p.mem_iff.1 b,f,fun t ht=>d t (p.mem_iff.2 ht)⟩
 ·rintro⟨s,b,f,d⟩;exact⟨s,p.mem_iff.2 b,f,fun t ht=>d t (p.mem_iff.1 ht)⟩
def taken(s:Source)(r:List Source):List Source:=if s.entries.tail=[] then r else⟨s.entries.tail,s.age⟩::r
theorem ux{s:Source}{c:Ch}{q:List Ch}(h:s.entries=c::q):s.top=c.key:=by simp[Source.top,h]
theorem pn.next{s:Source}{r:List Source}{last:List UInt8}{c:Ch}{q:List Ch}(h:pn (s::r) last)(i:s.entries=c::q)(u:∀ t∈s::r,s.le t) :
 pn (taken s r) c.key/\pn (taken s r) last:=by
 have j:jy s.entries:=h.rising s xJ;rw[i] at j;unfold jy at j;rw[zG] at j;have n:=h.jf7;rw[zG] at n
 have l:∀ t∈r,∀ x∈t.entries,¬x.key<c.key:=by
  intro t b x d k;have f:s.le t:=u t (xI _ b);unfold Source.le Source.less at f;simp only[Bool.or_eq_false_iff,decide_eq_false_iff_not] at f;have m:jy t.entries:=h.rising t (xI _ b)
  cases he:t.entries with
  | nil=>rw[he] at d;cases d
  | cons y z =>
   rw[ux he,ux i] at f;rw[he] at d m;unfold jy at m;rw[zG] at m;rcases zH.1 d with rfl|d
   ·exact f.1 k
   ·exact f.1 (XX (m.1 x d) k)
 have g:∀ K,(∀ t∈r,∀ x∈t.entries,¬x.key<K)->(∀ x∈q,¬x.key<K)->pn (taken s r) K:=by
  intro K o p;unfold taken
  split
  ·exact⟨fun t b=>h.some t (xI _ b),fun t b=>h.rising t (xI _ b),n.2,o⟩
  ·rename_i hne
   refine⟨fun t b=>?_,fun t b=>?_,zG.2 ⟨n.1,n.2⟩,fun t b=>?_⟩
   all_goals rcases zH.1 b with rfl|b
   ·exact hne
   ·exact h.some t (xI _ b)
   ·rw[i];exact j.2
   ·exact h.rising t (xI _ b)
   ·intro x d;rw[i] at d;exact p x d
   ·exact o t b
 refine⟨g _ l (fun x d=>wo (j.1 x d)),g _ (fun t b=>h.keys t (xI _ b)) (fun x d=>h.keys s xJ x (by rw[i];exact xI _ d))⟩
theorem Ka{s:Source}{r:List Source}{c:Ch}{q:List Ch}(j:s.entries=c::q)(m:c.key≠k)(x:Ch) :
 (∃ t∈taken s r,xh t.entries k=some x/\∀ u∈taken s r,u.age<t.age->xh u.entries k=none) ↔
 (∃ t∈s::r,xh t.entries k=some x/\∀ u∈s::r,u.age<t.age->xh u.entries k=none):=by
 have e:xh s.entries k=xh q k:=by rw[j,qm,if_neg m]
 unfold taken;rw[j,List.tail_cons];by_cases hq:q=[]
 ·rw[if_pos hq]
  have l:xh s.entries k=none:=by rw[e,hq];rfl
  constructor
  ·rintro⟨t,f,g,i⟩
   refine⟨t,xI _ f,g,fun u d b=>?_⟩;rcases zH.1 d with rfl|d
   ·exact l
   ·exact i u d b
  ·rintro⟨t,f,g,i⟩
   rcases zH.1 f with rfl|f
   ·rw[l] at g;cases g
   ·exact⟨t,f,g,fun u d=>i u (xI _ d)⟩
 ·rw[if_neg hq]
  constructor
  ·rintro⟨t,f,g,i⟩
   have H:∀ a,(∀ u∈(⟨q,s.age⟩:Source)::r,u.age<a->xh u.entries k=none)->∀ u∈s::r,u.age<a->xh u.entries k=none:=by
    intro a h u d b;rcases zH.1 d with rfl|d
    ·rw[e];exact h ⟨q,u.age⟩ xJ b
    ·exact h u (xI _ d) b
   rcases zH.1 f with rfl|f
   ·exact⟨s,xJ,e.trans g,H _ i⟩
   ·exact⟨t,xI _ f,g,H _ i⟩
  ·rintro⟨t,f,g,i⟩
   have H:∀ a,(∀ u∈s::r,u.age<a->xh u.entries k=none)->∀ u∈(⟨q,s.age⟩:Source)::r,u.age<a->xh u.entries k=none:=by
    intro a h u d b;rcases zH.1 d with rfl|d
    ·exact e.symm.trans (h s xJ b)
    ·exact h u (xI _ d) b
   rcases zH.1 f with rfl|f
   ·exact⟨⟨q,t.age⟩,xJ,e.symm.trans g,H _ i⟩
   ·exact⟨t,xI _ f,g,H _ i⟩
theorem Tells.again{s:Source}{r:List Source}{last:List UInt8}{c:Ch}{q L:List Ch}(h:Tells (s::r) last L)(b:s.entries=c::q)(d:c.key=last):Tells (taken s r) last L:=by
 refine⟨h.rising,h.behind,fun k x hk=>?_⟩;rw[h.has k x hk,Ka b (fun e=>ft hk (d.symm.trans e))]
theorem Tells.next{s:Source}{r:List Source}{last:List UInt8}{c:Ch}{q L:List Ch}(F:pn (s::r) last)(h:Tells (s::r) last L)(m:s.entries=c::q)(B:∀ t∈s::r,s.le t)(C:c.key≠last) :
 last<c.key/\∃ M,L=c::M/\Tells (taken s r) c.key M:=by
 have n:last<c.key:=by
  rcases rj last c.key with d|d|d
  ·exact d
  ·exact(C d.symm).elim
  ·exact(F.keys s xJ c (by rw[m];exact xJ) d).elim
 have b:xh L c.key=some c:=by
  rw[h.has _ _ n];refine⟨s,xJ,by rw[m,qm,if_pos rfl],fun t v hage=>?_⟩
  cases he:xh t.entries c.key with
  | none=>rfl
  | some x =>
   have l:=rm he;have o:=Wj he;have g:=B t v;have j:=F.rising t v
   cases he2:t.entries with
   | nil=>rw[he2] at l;cases l
   | cons y z =>
    unfold Source.le Source.less at g;simp only[Bool.or_eq_false_iff,decide_eq_false_iff_not,Bool.and_eq_false_iff] at g;rw[ux he2,ux m] at g;rw[he2] at l j;unfold jy at j;rw[zG] at j;rcases zH.1 l with rfl|l
    ·rcases g.2 with d|d
     ·exact(d o).elim
     ·exact(d hage).elim
    ·exact(g.1 (o▸j.1 x l)).elim
 have Fn:=(F.next m B).1
 have u:∀ x∈L,¬x.key<c.key:=by
  intro x l i;obtain⟨t,v,d,_⟩:=(h.has x.key x (h.behind x l)).1 (ku h.rising l);have f:=rm d;rcases zH.1 v with rfl|p
  ·rw[m] at f
   have A:jy t.entries:=F.rising t xJ;rw[m] at A;unfold jy at A;rw[zG] at A;rcases zH.1 f with rfl|f
   ·exact XS _ i
   ·exact wo (A.1 x f) i
  ·have:t∈taken s r:=by
    unfold taken
    split
    ·exact p
    ·exact xI _ p
   exact Fn.keys t this x f i
 refine⟨n,?_⟩
 cases L with
 | nil=>cases b
 | cons y M =>
  have j:=h.rising;unfold jy at j;rw[zG] at j
  have D:y=c:=by
   rw[qm] at b
   split at b
   ·exact Option.some.inj b
   ·exact(u y xJ (by have:=j.1 c (rm b);exact this)).elim
  subst D;refine⟨M,rfl,j.2,j.1,fun k x o=>?_⟩;rw[Ka m (ft o),<-h.has k x (XX n o),qm,if_neg (ft o)]
theorem Tells.nil{last:List UInt8}{L:List Ch}(h:Tells [] last L):L=[]:=by
 cases L with
 | nil=>rfl
 | cons x r =>
  obtain⟨s,b,_⟩:=(h.has x.key x (h.behind x xJ)).1 (ku h.rising xJ);cases b
def qk:Nat->List (List Ch)->List Source
 | _,[]=>[]
 | n,l::ls=>if l=[] then qk (n+1) ls else⟨l,n⟩::qk (n+1) ls
theorem Zv{ls:List (List Ch)}:∀ s∈qk n ls,n<=s.age:=by
 induction ls generalizing n with
 | nil=>intro s b;cases b
 | cons l ls ih =>
  intro s b;unfold qk at b
  split at b
  ·have:=ih s b;omega
  ·rcases zH.1 b with rfl|b
   ·exact xA _
   ·have:=ih s b;omega
theorem Lh{ls:List (List Ch)}(h:∀ l∈ls,jy l):pn (qk n ls) []:=by
 induction ls generalizing n with
 | nil=>exact⟨fun s b=>(by cases b),fun s b=>(by cases b),List.Pairwise.nil,fun s b=>(by cases b)⟩
 | cons l ls ih =>
  have I:=ih (n:=n+1) (fun x hx=>h x (xI _ hx));unfold qk
  split
  ·exact I
  ·rename_i hne
   refine⟨fun s b=>?_,fun s b=>?_,zG.2 ⟨fun t ht=>?_,I.jf7⟩,fun s b c hc hlt=>List.not_lt_nil _ hlt⟩
   ·rcases zH.1 b with rfl|b
    ·exact hne
    ·exact I.some s b
   ·rcases zH.1 b with rfl|b
    ·exact h l xJ
    ·exact I.rising s b
   ·have:=Zv t ht
    show n≠t.age;omega
theorem si{ls:List (List Ch)}(k:List UInt8)(c:Ch):lf ls k=some c↔∃ s∈qk n ls,xh s.entries k=some c/\∀ t∈qk n ls,t.age<s.age->xh t.entries k=none:=by
 induction ls generalizing n with
 | nil=>simp[lf,qk]
 | cons l ls ih =>
  rw[Q9];unfold qk
  split
  ·rename_i hl
   rw[hl];show((none:Option Ch).or _)=_↔_;rw[Option.none_or];exact ih
  ·cases hg:xh l k with
   | some x =>
    rw[Option.some_or];constructor
    ·intro e
     cases e;refine⟨⟨l,n⟩,xJ,hg,fun t b hlt=>?_⟩;rcases zH.1 b with rfl|b
     ·exact(yD _ hlt).elim
     ·have:=Zv t b
      exact absurd hlt (by show ¬t.age<n;omega)
    ·rintro⟨s,d,f,g⟩
     rcases zH.1 d with rfl|d
     ·exact hg.symm.trans f
     ·have:=Zv s d
      have i:=g ⟨l,n⟩ xJ (by show n<s.age;omega);rw[hg] at i;cases i
   | none =>
    rw[Option.none_or,ih (n:=n+1)];constructor
    ·rintro⟨s,d,f,g⟩
     refine⟨s,xI _ d,f,fun t b hlt=>?_⟩;rcases zH.1 b with rfl|b
     ·exact hg
     ·exact g t b hlt
    ·rintro⟨s,d,f,g⟩
     rcases zH.1 d with rfl|d
     ·rw[hg] at f;cases f
     ·exact⟨s,d,f,fun t b=>g t (xI _ b)⟩
theorem Lg{ls:List (List Ch)}(h:∀ l∈ls,jy l)(j:∀ l∈ls,∀ c∈l,c.key≠[]):Tells (qk n ls) [] (merged ls):=by
 refine⟨yu ls,fun c hc=>?_,fun k c _=>?_⟩
 ·have o:=ku (yu ls) hc
  rw[Ym h,si (n:=n)] at o;obtain⟨s,d,m,f⟩:=o;clear f
  have:∃ l∈ls,s.entries=l:=by
   clear m h j hc
   induction ls generalizing n with
   | nil=>cases d
   | cons l ls ih =>
    unfold qk at d
    split at d
    ·obtain⟨x,g,e⟩:=ih d;exact⟨x,xI _ g,e⟩
    ·rcases zH.1 d with rfl|d
     ·exact⟨l,xJ,rfl⟩
     ·obtain⟨x,g,e⟩:=ih d;exact⟨x,xI _ g,e⟩
  obtain⟨l,p,e⟩:=this;have i:=j l p c (e▸rm m)
  cases hkc:c.key with
  | nil=>exact(i hkc).elim
  | cons a b=>exact List.nil_lt_cons _ _
 ·rw[Ym h]
  exact si k c
def chunks:List Ch->List (List Ch)
 | []=>[]
 | a::b::c::d::r=>[a,b,c,d]::chunks r
 | l=>[l]
def jm(b:List Ch):List UInt8:=frame (big b.length 1++b.flatMap entry)
def zq(b:List Ch):List UInt8:=(b.head?.map Ch.key).getD []
def xe(p:Nat×List UInt8):List UInt8:=big p.1 4++text p.2
def js:Nat->List (List Ch)->List (Nat×List UInt8)
 | _,[]=>[]
 | n,b::r=>(n,zq b)::js (n+(jm b).length) r
def zm(bl:List (List Ch)):List UInt8:=bl.flatMap jm++frame (big bl.length 2++(js 0 bl).flatMap xe)++big (bl.flatMap jm).length 4
def jn(l:List Ch):List UInt8:=zm (chunks l)
theorem Qd(l:List Ch):(chunks l).flatten=l:=by
 induction l using chunks.induct with
 | case1=>rfl
 | case2 a b c d r ih=>rw[chunks];simp[ih]
 | case3 l h1 h2=>
  rw[chunks]
  ·simp
  ·exact h1
  ·exact h2
theorem Ti{l:List Ch}:chunks l=[]↔l=[]:=by
 constructor
 ·intro h
  have:=Qd l;rw[h] at this;exact this.symm
 ·intro h;rw[h];rfl
theorem cd{l b:List Ch}(h:b∈chunks l):1<=b.length/\b.length<=4:=by
 induction l using chunks.induct with
 | case1=>cases h
 | case2 a b' c d r ih =>
  rw[chunks] at h;rcases zH.1 h with rfl|h
  ·simp
  ·exact ih h
 | case3 l h1 h2 =>
  rw[chunks] at h
  ·rw[ZE] at h
   subst h
   match b,h1,h2 with
   | [],h1,_=>exact(h1 rfl).elim
   | [a],_,_=>simp
   | [a,b],_,_=>simp
   | [a,b,c],_,_=>simp
   | a::b::c::d::r,_,h2=>exact(h2 a b c d r rfl).elim
  ·exact h1
  ·exact h2
theorem uj{l b:List Ch}(h:b∈chunks l):∀ c∈b,c∈l:=by
 intro c d;rw[<-Qd l];exact List.mem_flatten.2 ⟨b,h,d⟩
theorem Cb{l:List Ch}(h:l≠[]):chunks l=l.take 4::chunks (l.drop 4):=by
 match l,h with
 | [],h=>exact(h rfl).elim
 | [a],_=>rfl
 | [a,b],_=>rfl
 | [a,b,c],_=>rfl
 | a::b::c::d::r,_=>rw[chunks];simp
theorem Xl(l:List Ch):(chunks l).length=(l.length+3)/4:=by
 induction l using chunks.induct with
 | case1=>rfl
 | case2 a b c d r ih=>rw[chunks];simp[ih];omega
 | case3 l h1 h2 =>
  match l,h1,h2 with
  | [],h1,_=>exact(h1 rfl).elim
  | [a],_,_=>simp[chunks]
  | [a,b],_,_=>simp[chunks]
  | [a,b,c],_,_=>simp[chunks]
  | a::b::c::d::r,_,h2=>exact(h2 a b c d r rfl).elim
def ar(footer:Nat)(l:List UInt8):Option ((Nat×List UInt8)×List UInt8) :=
 if 4<=l.length/\number (l.take 4)<=footer then
  match xl (l.drop 4)with
  | some (t,q)=>some ((number (l.take 4),t),q)
  | none=>none
 else none
def Jq(footer:Nat):Nat->List UInt8->Option (List (Nat×List UInt8)×List UInt8)
 | 0,l=>some ([],l)
 | n+1,l =>
  match ar footer l with
  | none=>none
  | some (p,r) =>
   match Jq footer n r with
   | none=>none
   | some (ps,q)=>some (p::ps,q)
def ot(ps:List (Nat×List UInt8)):Bool:=decide ((ps.head?.map Prod.fst)=some 0)&&decide (ps.Pairwise (fun a b=>a.1<=b.1))
def bm(footer:Nat)(l:List UInt8):Option (List (Nat×List UInt8)) :=
 if 2<=l.length/\number (l.take 2)≠0 then
  match Jq footer (number (l.take 2)) (l.drop 2)with
  | some (ps,[])=>if ot ps then some ps else none
  | _=>none
 else none
def C6(b:List UInt8):Option (Nat×List (Nat×List UInt8)) :=
 if 4<=b.length/\number (b.drop (b.length-4))<=b.length-4 then
  match qw ((b.take (b.length-4)).drop (number (b.drop (b.length-4))))with
  | some (h,[]) =>
   match bm (number (b.drop (b.length-4))) h with
   | some ps=>some (number (b.drop (b.length-4)),ps)
   | none=>none
  | _=>none
 else none
def Qv(footer:Nat)(ps:List (Nat×List UInt8))(i:Nat):Nat:=((ps[i+1]?).map Prod.fst).getD footer
def Ah(ps:List (Nat×List UInt8))(i:Nat):Nat:=((ps[i]?).map Prod.fst).getD 0
def keyOf(ps:List (Nat×List UInt8))(i:Nat):List UInt8:=((ps[i]?).map Prod.snd).getD []
def wm(b:List Ch):List UInt8:=(b.getLast?.map Ch.key).getD []
def fits(ps:List (Nat×List UInt8))(i:Nat)(es:List Ch):Bool :=
 decide (zq es=keyOf ps i)&&decide (es.Pairwise (fun a b=>a.key<b.key))&&(decide (i+1=ps.length)||(decide (es.length=4)&&decide (wm es<keyOf ps (i+1))))
def C9(b:List UInt8)(footer:Nat)(ps:List (Nat×List UInt8))(i:Nat):Option (List Ch) :=
 match qw ((b.take (Qv footer ps i)).drop (Ah ps i))with
 | some (h,[]) =>
  match Jd 4 h with
  | some es=>if fits ps i es then some es else none
  | none=>none
 | _=>none
theorem qx(n:Nat)(bl:List (List Ch)):(js n bl).length=bl.length:=by
 induction bl generalizing n with
 | nil=>rfl
 | cons b r ih=>simp[js,ih]
theorem zo(n:Nat)(bl:List (List Ch))(i:Nat):(js n bl)[i]?=(bl[i]?).map (fun b=>(n+((bl.take i).flatMap jm).length,zq b)):=by
 induction bl generalizing n i with
 | nil=>simp[js]
 | cons b r ih =>
  cases i with
  | zero=>simp[js]
  | succ i =>
   rw[js,yC,ih,yC,List.take_succ_cons,xL,ZY]
   cases r[i]? with
   | none=>rfl
   | some x=>simp only[Option.map_some];rw[ZL]
theorem ki(n:Nat)(bl:List (List Ch)):∀ p∈js n bl,n<=p.1/\p.1<=n+(bl.flatMap jm).length:=by
 intro p b;obtain⟨i,hi,e⟩:=XG b;have h:=zo n bl i;rw[zL hi,e] at h;rw[qx] at hi;rw[zL hi] at h;cases h
 have c:((bl.take i).flatMap jm).length<=(bl.flatMap jm).length:=by
  conv=>rhs;rw[<-ZR i bl,xM,ZY]
  omega
 show n<=n+_/\n+_<=n+_;omega
theorem Fo(n:Nat)(bl:List (List Ch)):(js n bl).Pairwise (fun a b=>a.1<=b.1):=by
 induction bl generalizing n with
 | nil=>exact List.Pairwise.nil
 | cons b r ih =>
  refine zG.2 ⟨fun p hp=>?_,ih _⟩;have:=(ki _ _ p hp).1;show n<=p.1;omega
theorem Dj(f:p.1<=F)(d:p.1<256^4)(c:p.2.length<256)(q:List UInt8):ar F (xe p++q)=some (p,q):=by
 have b:(big p.1 4).length=4:=ji _ _
 have j:(xe p++q).take 4=big p.1 4:=by
  unfold xe;rw[ZK,XH (by omega),ZO (by omega)]
 have i:(xe p++q).drop 4=text p.2++q:=by
  unfold xe;rw[ZK,xG (by omega),xH (by omega),xZ]
 have g:4<=(xe p++q).length:=by unfold xe;simp[b]
 unfold ar;rw[j,i,Jj _ _ d,if_pos ⟨g,f⟩,Y5 c]
theorem Ci(h:∀ p∈ps,p.1<=F/\p.1<256^4/\p.2.length<256)(q:List UInt8):Jq F ps.length (ps.flatMap xe++q)=some (ps,q):=by
 induction ps with
 | nil=>simp[Jq]
 | cons p r ih =>
  obtain⟨d,c,b⟩:=h p xJ;rw[zX,Jq,xL,ZK,Dj d c b];simp only[ih (fun x hx=>h x (xI _ hx))]
structure Laid(bl:List (List Ch)):Prop where
 ne:bl≠[]
 len:∀ b∈bl,1<=b.length/\b.length<=4
 full:∀(i:Nat) (b:List Ch),i+1<bl.length->bl[i]?=some b->b.length=4
 ok:∀ b∈bl,∀ c∈b,allowed c=true
 rising:jy bl.flatten
 small:(bl.flatMap jm).length<256^4/\bl.length<65536
theorem Aa{b:List Ch}(h:∀ c∈b,allowed c=true):(zq b).length<256:=by
 cases b with
 | nil=>simp[zq]
 | cons c r =>
  have:=(xz c).1 (h c xJ);show c.key.length<256;omega
theorem Laid.places{bl:List (List Ch)}(h:Laid bl):bm (bl.flatMap jm).length (big bl.length 2++(js 0 bl).flatMap xe)=some (js 0 bl):=by
 have f:(big bl.length 2).length=2:=ji _ _
 have l:(big bl.length 2++(js 0 bl).flatMap xe).take 2=big bl.length 2:=by
  rw[XH (by omega),ZO (by omega)]
 have k:(big bl.length 2++(js 0 bl).flatMap xe).drop 2=(js 0 bl).flatMap xe:=by
  rw[xG (by omega),xH (by omega),xZ]
 have d:bl.length≠0:=fun e=>h.ne (xB e)
 have j:Jq (bl.flatMap jm).length bl.length ((js 0 bl).flatMap xe)=some (js 0 bl,[]):=by
  have:=Ci (F:=(bl.flatMap jm).length) (ps:=js 0 bl) (fun p hp=>?_) []
  ·rwa [ZC,qx] at this
  ·have n:=(ki 0 bl p hp).2
   have m:=h.small.1;refine⟨by omega,by omega,?_⟩;obtain⟨i,hi,e⟩:=XG hp;have c:=zo 0 bl i;rw[zL hi,e] at c;rw[qx] at hi;rw[zL hi] at c;cases c;exact Aa (h.ok _ (zV hi))
 have g:ot (js 0 bl)=true:=by
  unfold ot;rw[XR];refine⟨?_,by simpa using Fo 0 bl⟩
  cases bl with
  | nil=>exact(h.ne rfl).elim
  | cons b r=>simp[js]
 unfold bm;rw[l,k,Jj _ _ h.small.2,if_pos ⟨by simp[f],d⟩,j];simp only[g,if_true]
theorem vu:(xe p).length=5+p.2.length:=by simp[xe,text,ji];omega
theorem Mg{bl:List (List Ch)}(h:Laid bl):(big bl.length 2++(js 0 bl).flatMap xe).length<256^4:=by
 have H:∀(ps:List (Nat×List UInt8)),(∀ p∈ps,p.2.length<256)->(ps.flatMap xe).length<=261*ps.length:=by
  intro ps
  induction ps with
  | nil=>simp
  | cons p r ih =>
   intro b;have d:=ih (fun x hx=>b x (xI _ hx));have f:=b p xJ;rw[xL,ZY,vu,zX];omega
 have d:=H (js 0 bl) (fun p b=>by
  obtain⟨i,hi,e⟩:=XG b
  have c:=zo 0 bl i
  rw[zL hi,e] at c
  rw[qx] at hi
  rw[zL hi] at c
  cases c
  exact Aa (h.ok _ (zV hi)))
 rw[qx] at d;have f:=h.small.2;rw[ZY,ji];omega
theorem Laid.read{bl:List (List Ch)}(h:Laid bl):C6 (zm bl)=some ((bl.flatMap jm).length,js 0 bl):=by
 generalize hB:bl.flatMap jm=B;generalize hf:frame (big bl.length 2++(js 0 bl).flatMap xe)=f;have b:zm bl=B++f++big B.length 4:=by unfold zm;rw[hB,hf]
 have i:(big B.length 4).length=4:=ji _ _;have d:(zm bl).length=B.length+f.length+4:=by rw[b];simp[i];omega
 have c:=h.small.1;rw[hB] at c
 have l:(zm bl).drop ((zm bl).length-4)=big B.length 4:=by
  rw[d,b,show B.length+f.length+4-4=(B++f).length by simp,List.drop_left]
 have k:(zm bl).take ((zm bl).length-4)=B++f:=by
  rw[d,b,show B.length+f.length+4-4=(B++f).length by simp,xQ]
 have j:qw f=some (big bl.length 2++(js 0 bl).flatMap xe,[]):=by
  have:=Xm (big bl.length 2++(js 0 bl).flatMap xe) [] (Mg h);rwa [ZC,hf] at this
 have g:=h.places;rw[hB] at g;unfold C6;rw[l,k,Jj _ _ c,if_pos ⟨by omega,by omega⟩,List.drop_left,j];simp only[g]
theorem Pw{b:List Ch}(d:b.length<=4)(h:∀ c∈b,allowed c=true):(big b.length 1++b.flatMap entry).length<256^4:=by
 have:=Jf h;rw[ZY,ji];omega
theorem Nv{bl:List (List Ch)}(h:jy bl.flatten){b:List Ch}(c:b∈bl):jy b:=h.sublist (List.sublist_flatten_of_mem c)
theorem Laid.block{bl:List (List Ch)}(h:Laid bl){b:List Ch}(g:bl[i]?=some b):C9 (zm bl) (bl.flatMap jm).length (js 0 bl) i=some b:=by
 have hi:i<bl.length:=(XA.1 g).1;have d:b∈bl:=XU g
 have p:bl=bl.take i++b::bl.drop (i+1):=by
  have e:bl[i]=b:=(XA.1 g).2;rw[<-e,XC,ZR]
 have r:Ah (js 0 bl) i=((bl.take i).flatMap jm).length:=by
  unfold Ah;rw[zo,g];simp
 have es:Qv (bl.flatMap jm).length (js 0 bl) i=((bl.take i).flatMap jm).length+(jm b).length:=by
  have e:((bl.take (i+1)).flatMap jm).length=((bl.take i).flatMap jm).length+(jm b).length:=by
   rw[zY,g,zZ,xM,ZY];simp
  unfold Qv;rw[zo]
  cases h2:bl[i+1]? with
  | some x=>simp only[Option.map_some,Option.getD_some];rw[e];omega
  | none =>
   rw[List.getElem?_eq_none_iff] at h2;rw[<-e,ZO (by omega)];rfl
 have z:((zm bl).take (((bl.take i).flatMap jm).length+(jm b).length)).drop ((bl.take i).flatMap jm).length=jm b:=by
  have e:zm bl=((bl.take i).flatMap jm++jm b)++((bl.drop (i+1)).flatMap jm++frame (big bl.length 2++(js 0 bl).flatMap xe)++big (bl.flatMap jm).length 4):=by
   unfold zm
   conv=>lhs;lhs;lhs;rw[p]
   simp
  rw[e,show((bl.take i).flatMap jm).length+(jm b).length=((bl.take i).flatMap jm++jm b).length by simp,xQ,List.drop_left]
 have v:qw (jm b)=some (big b.length 1++b.flatMap entry,[]):=by
  have:=Xm (big b.length 1++b.flatMap entry) [] (Pw (h.len b d).2 (h.ok b d));rwa [ZC] at this
 have u:=gp (h.len b d).1 (h.len b d).2 (by omega) (h.ok b d)
 have t:fits (js 0 bl) i b=true:=by
  unfold fits;rw[XR,XR];refine⟨⟨?_,by simpa [jy] using Nv h.rising d⟩,?_⟩
  ·simp[keyOf,zo,g]
  ·rw[qx]
   by_cases hlast:i+1=bl.length
   ·simp[hlast]
   ·rw[Bool.or_eq_true]
    refine .inr ?_;rw[XR];refine⟨by simpa using h.full i b (by omega) g,?_⟩;obtain⟨x,m⟩:∃ x,bl[i+1]?=some x:=⟨_,zL (by omega)⟩;have n:x∈bl:=XU m;have q:keyOf (js 0 bl) (i+1)=zq x:=by simp[keyOf,zo,m]
    rw[q]
    have o:bl.drop (i+1)=x::bl.drop (i+2):=by
     have e:bl[i+1]=x:=(XA.1 m).2;rw[<-e,XC]
    have l:=h.rising;rw[p,o] at l
    cases hxe:x with
    | nil=>have:=(h.len x n).1;rw[hxe] at this;simp at this
    | cons c y =>
     have k:=(h.len b d).1;have f:b≠[]:=fun e=>by rw[e] at k;simp at k
     have s:wm b=(b.getLast f).key:=by unfold wm;rw[List.getLast?_eq_some_getLast f];rfl
     rw[s];unfold jy at l;rw[List.flatten_append,List.flatten_cons,List.flatten_cons,List.pairwise_append] at l;have j:=l.2.1;rw[List.pairwise_append] at j;rw[decide_eq_true_eq];simpa [zq] using j.2.2 (b.getLast f) (List.getLast_mem f) c (by rw[hxe];simp)
 unfold C9;rw[es,r,z,v];simp only[u,t,if_true]
theorem Pp(l:List Ch):∀(i:Nat) (b:List Ch),i+1<(chunks l).length->(chunks l)[i]?=some b->b.length=4:=by
 induction l using chunks.induct with
 | case1=>intro i b hi _;simp[chunks] at hi
 | case2 a b' c d r ih =>
  intro i b hi f;rw[chunks] at hi f
  cases i with
  | zero=>cases f;rfl
  | succ i=>exact ih i b (by simpa using hi) (by simpa using f)
 | case3 l h1 h2 =>
  intro i b hi;rw[chunks] at hi
  ·simp at hi
  ·exact h1
  ·exact h2
theorem Ou{l:List Ch}(f:l≠[])(d:∀ c∈l,allowed c=true)(i:jy l)(g:((chunks l).flatMap jm).length<256^4)(j:l.length<262140):Laid (chunks l) :=
 ⟨fun e=>f (Ti.1 e),fun b hb=>cd hb,Pp l,fun b hb c hc=>d c (uj hb c hc),by rw[Qd];exact i,g,by rw[Xl];omega⟩
def ahead(ps:List (Nat×List UInt8))(k:List UInt8):Nat:=(ps.takeWhile (fun p=>decide (p.2<k))).length
def fh(ps:List (Nat×List UInt8))(k:List UInt8):Nat :=
 if (ps[ahead ps k]?).map Prod.snd=some k then ahead ps k else ahead ps k-1
def j7(k:List UInt8)(c:Ch):Bool:=decide (¬c.key<k)
def jc9(ps:List (Nat×List UInt8))(k:List UInt8):Prop:=∀ i p,ahead ps k<=i->ps[i]?=some p->¬p.2<k
theorem Aj(ps:List (Nat×List UInt8))(k:List UInt8):ahead ps k<=ps.length:=by
 have:=(List.takeWhile_sublist (fun p:Nat×List UInt8=>decide (p.2<k)) (l:=ps)).length_le;exact this
theorem Py(h:i<ahead ps k)(b:ps[i]?=some p):p.2<k:=by
 unfold ahead at h
 induction ps generalizing i with
 | nil=>simp at h
 | cons x r ih =>
  by_cases hx:x.2<k
  ·rw[List.takeWhile_cons_of_pos (by simpa using hx),zX] at h
   cases i with
   | zero=>cases b;exact hx
   | succ i=>exact ih (by omega) b
  ·rw[List.takeWhile_cons_of_neg (by simpa using hx)] at h
   simp at h
theorem jad(b:ps[ahead ps k]?=some p):¬p.2<k:=by
 unfold ahead at b
 induction ps with
 | nil=>simp at b
 | cons x r ih =>
  by_cases hx:x.2<k
  ·rw[List.takeWhile_cons_of_pos (by simpa using hx),zX] at b
   exact ih b
  ·rw[List.takeWhile_cons_of_neg (by simpa using hx)] at b
   cases b;exact hx
theorem Laid.order{bl:List (List Ch)}(h:Laid bl){a b:List Ch}(k:bl[i]?=some a)(d:bl[j]?=some b)(l:i<j):∀ x∈a,∀ y∈b,x.key<y.key:=by
 have m:=(XA.1 d).1;have c:=h.rising;rw[<-ZR (i+1) bl,List.flatten_append] at c;unfold jy at c;rw[List.pairwise_append] at c;intro x g y f;refine c.2.2 x (List.mem_flatten.2 ⟨a,?_,g⟩) y (List.mem_flatten.2 ⟨b,?_,f⟩)
 ·rw[zY,k];simp
 ·refine XU (i:=j-(i+1)) ?_
  rw[ZV,show i+1+(j-(i+1))=j by omega];exact d
theorem Yn{b:List Ch}(h:1<=b.length):∃ c∈b,zq b=c.key:=by
 cases b with
 | nil=>simp at h
 | cons c r=>exact⟨c,xJ,rfl⟩
theorem Laid.jfn{bl:List (List Ch)}(h:Laid bl)(k:List UInt8):jc9 (js 0 bl) k:=by
 intro i p hi f;have j:i<(js 0 bl).length:=(XA.1 f).1;have d:ahead (js 0 bl) k<(js 0 bl).length:=by omega
 obtain⟨q,c⟩:∃ q,(js 0 bl)[ahead (js 0 bl) k]?=some q:=⟨_,zL d⟩;have g:=jad c;by_cases e:ahead (js 0 bl) k=i
 ·rw[e,f] at c
  cases c;exact g
 ·intro b
  rw[qx] at j d;rw[zo,zL d] at c;rw[zo,zL j] at f;cases c;cases f;obtain⟨x,m,o⟩:=Yn (h.len _ (zV d)).1;obtain⟨y,l,n⟩:=Yn (h.len _ (zV j)).1;have:=h.order (zL d) (zL j) (by omega) x m y l;simp only at g b;rw[o] at g;rw[n] at b;exact g (XX this b)
theorem Laid.jdn{bl:List (List Ch)}(h:Laid bl)(k:List UInt8):∀ c∈(bl.take (fh (js 0 bl) k)).flatten,c.key<k:=by
 intro c r;obtain⟨b,s,f⟩:=List.mem_flatten.1 r;obtain⟨j,m,e⟩:=XG s;rw[ZT] at m;rw[List.getElem_take] at e;have p:=Aj (js 0 bl) k;rw[qx] at p;have g:bl[j]?=some b:=by rw[zL (by omega),e]
 unfold fh at m
 split at m
 ·rename_i hf
  have d:ahead (js 0 bl) k<bl.length:=by
   rcases ZJ (ahead (js 0 bl) k) bl.length with q|q
   ·exact q
   ·rw[List.getElem?_eq_none_iff.2 (by rw[qx];omega)] at hf;cases hf
  rw[zo,zL d] at hf;simp at hf;obtain⟨x,l,o⟩:=Yn (h.len _ (zV d)).1;rw[o] at hf;rw[<-hf];exact h.order g (zL d) (by omega) c f x l
 ·have d:ahead (js 0 bl) k-1<bl.length:=by omega
  have n:=Py (ps:=js 0 bl) (k:=k) (i:=ahead (js 0 bl) k-1) (by omega) (by rw[zo,zL d];rfl);obtain⟨x,l,o⟩:=Yn (h.len _ (zV d)).1;simp only at n;rw[o] at n;exact XX (h.order g (zL d) (by omega) c f x l) n
def re(l:List UInt8):Option (Nat×List UInt8):=if 8<=l.length/\number (l.take 8)<=2000000000 then some (number (l.take 8),l.drop 8)else none
def ql:Nat->List UInt8->Option (List Nat×List UInt8)
 | 0,l=>some ([],l)
 | n+1,l =>
  match re l with
  | none=>none
  | some (x,q) =>
   match ql n q with
   | none=>none
   | some (xs,q')=>some (x::xs,q')
theorem ab{xs:List Nat}:ql n l=some (xs,q)↔8*n<=l.length/\xs=zg n l/\q=l.drop (8*n)/\∀ x∈xs,x<=2000000000:=by
 induction n generalizing l xs q with
 | zero =>
  simp only[ql,zg,Nat.mul_zero,List.drop_zero,zU,true_and,Option.some.injEq,Prod.mk.injEq];constructor
  ·rintro⟨rfl,rfl⟩;exact⟨rfl,rfl,fun x b=>by cases b⟩
  ·rintro⟨rfl,rfl,_⟩;exact⟨rfl,rfl⟩
 | succ n ih =>
  unfold ql re;by_cases hc:8<=l.length/\number (l.take 8)<=2000000000
  ·rw[if_pos hc]
   simp only
   cases h:ql n (l.drop 8)with
   | none =>
    simp only[reduceCtorEq,false_iff];rintro⟨d,rfl,rfl,c⟩;have:ql n (l.drop 8)=some (zg n (l.drop 8),(l.drop 8).drop (8*n)):=ih.2 ⟨by simp;omega,rfl,rfl,fun x b=>c x (by rw[zg];exact xI _ b)⟩;rw[h] at this;cases this
   | some y =>
    obtain⟨i,j⟩:=y;obtain⟨d,c,f,g⟩:=ih.1 h;simp only[Option.some.injEq,Prod.mk.injEq];constructor
    ·rintro⟨rfl,rfl⟩
     refine⟨by simp at d;omega,by rw[zg,c],by rw[f,XL];congr 1;omega,fun x b=>?_⟩;rcases zH.1 b with rfl|b
     ·exact hc.2
     ·exact g x b
    ·rintro⟨_,rfl,rfl,_⟩
     exact⟨by rw[zg,c],by rw[f,XL];congr 1;omega⟩
  ·rw[if_neg hc]
   simp only[reduceCtorEq,false_iff];rintro⟨d,rfl,rfl,c⟩;exact hc ⟨by omega,c _ (by rw[zg];exact xJ)⟩
def J5(l:List UInt8):Option Man :=
 match ql 4 l with
 | some ([a,b,c,d],q) =>
  if 2<=q.length then
   match ql (number (q.take 2)) (q.drop 2)with
   | some (rs,[])=>some ⟨a,b,c,d,rs⟩
   | _=>none
  else none
 | _=>none
def Ui(l:List UInt8):Option Man :=
 match qw l with
 | some (h,[]) =>
  match J5 h with
  | some m=>if m.Good then some m else none
  | none=>none
 | _=>none
theorem sq(l:List UInt8):zg 4 l=[number (l.take 8),number ((l.drop 8).take 8),number ((l.drop 16).take 8),number ((l.drop 24).take 8)]:=by
 simp[zg,XL]
theorem mh{h:List UInt8}{m:Man}(e:J5 h=some m):34<=h.length/\h.length=34+8*number ((h.drop 32).take 2) /\
 m=⟨number (h.take 8),number ((h.drop 8).take 8),number ((h.drop 16).take 8),number ((h.drop 24).take 8),zg (number ((h.drop 32).take 2)) (h.drop 34)⟩/\m.next<=2000000000/\m.last<=2000000000:=by
 unfold J5 at e
 cases h4:ql 4 h with
 | none=>rw[h4] at e;cases e
 | some y =>
  obtain⟨xs,q⟩:=y;obtain⟨n,c,l,b⟩:=ab.1 h4;rw[sq] at c;subst c;rw[h4] at e;simp only at e
  split at e
  ·rename_i h2
   cases hr:ql (number (q.take 2)) (q.drop 2)with
   | none=>rw[hr] at e;cases e
   | some z =>
    obtain⟨rs,d⟩:=z;rw[hr] at e
    cases d with
    | cons _ _=>cases e
    | nil =>
     simp only[Option.some.injEq] at e;obtain⟨k,j,i,o⟩:=ab.1 hr;subst l;have g:(h.drop 32).drop 2=h.drop 34:=by rw[XL]
     have f:=congrArg List.length i;simp at n h2 k f;refine⟨by omega,by omega,?_,?_,?_⟩
     ·rw[<-e,j,g]
     ·rw[<-e];exact b _ xJ
     ·rw[<-e];exact b _ (xI _ xJ)
  ·cases e
theorem jb1(l:List UInt8):Ui l=vr l:=by
 unfold Ui vr
 cases hf:qw l with
 | none=>rfl
 | some y =>
  obtain⟨h,q⟩:=y
  cases q with
  | cons a b=>simp
  | nil =>
   simp only[true_and]
   cases hr:J5 h with
   | some m =>
    obtain⟨r,p,o,_,_⟩:=mh hr;rw[if_pos ⟨r,p⟩];simp only[<-o]
   | none =>
    simp only;by_cases hc:34<=h.length/\h.length=34+8*number ((h.drop 32).take 2)
    ·rw[if_pos hc]
     by_cases hg:Man.Good ⟨number (h.take 8),number ((h.drop 8).take 8),number ((h.drop 16).take 8),number ((h.drop 24).take 8),zg (number ((h.drop 32).take 2)) (h.drop 34)⟩
     ·exfalso
      obtain⟨k,t,s,z⟩:=hg;simp only at k t;have c:∀ n∈Man.numbers ⟨number (h.take 8),number ((h.drop 8).take 8),number ((h.drop 16).take 8),number ((h.drop 24).take 8),zg (number ((h.drop 32).take 2)) (h.drop 34)⟩,n<=2000000000:=fun n hn=>by have:=(s n hn).2;simp only at this;omega
      have g:=c (number ((h.drop 16).take 8)) (by simp[Man.numbers])
      have f:number ((h.drop 24).take 8)<=2000000000:=by
       by_cases hb:number ((h.drop 24).take 8)=0
       ·omega
       ·exact c _ (by simp[Man.numbers,Man.settled,hb])
      have d:∀ n∈zg (number ((h.drop 32).take 2)) (h.drop 34),n<=2000000000:=fun n hn=>c n (by unfold Man.numbers Man.settled;split<;>simp[hn])
      have v:ql 4 h=some ([number (h.take 8),number ((h.drop 8).take 8),number ((h.drop 16).take 8),number ((h.drop 24).take 8)],h.drop 32):=ab.2 ⟨by omega,(sq h).symm,rfl,by
       intro x i
       simp only[zH,List.not_mem_nil,or_false] at i
       rcases i with rfl|rfl|rfl|rfl
       ·exact k
       ·omega
       ·exact g
       ·exact f⟩
      have j:(h.drop 32).drop 2=h.drop 34:=by rw[XL]
      have u:ql (number ((h.drop 32).take 2)) ((h.drop 32).drop 2)=some (zg (number ((h.drop 32).take 2)) (h.drop 34),[]):=ab.2 ⟨by simp;omega,by rw[j],by rw[j,XL];exact(xH (by omega)).symm,d⟩;unfold J5 at hr;rw[v] at hr;simp only at hr;rw[if_pos (by simp;omega),u] at hr;cases hr
     ·rw[if_neg hg]
    ·rw[if_neg hc]
end Go.Proofs.YtnipbplghijdmaaGreatDoor.Rf
