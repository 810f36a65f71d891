/-
  D: RefA Plain Parse Merge Heap Run.
-/
import Derived.ProofKit
set_option linter.unusedVariables false
set_option linter.unusedSimpArgs false
namespace Go.Proofs.YtnipbplghijdmaaGreatDoor
theorem zF:type_of% @List.mem_cons:=@List.mem_cons
theorem zG:type_of% @Nat.zero_le:=@Nat.zero_le
theorem zH:type_of% @List.length_cons:=@List.length_cons
theorem zI:type_of% @Array.getElem?_eq_none:=@Array.getElem?_eq_none
theorem zJ:type_of% @Nat.le_refl:=@Nat.le_refl
theorem zK:type_of% @List.length_take:=@List.length_take
theorem zL:type_of% @List.length_map:=@List.length_map
theorem zM:type_of% @List.mem_of_mem_take:=@List.mem_of_mem_take
theorem zN:type_of% @Nat.eq_zero_or_pos:=@Nat.eq_zero_or_pos
theorem zO:type_of% @List.getElem?_eq_some_iff:=@List.getElem?_eq_some_iff
theorem zP:type_of% @List.map_cons:=@List.map_cons
theorem zQ:type_of% @List.mem_cons_of_mem:=@List.mem_cons_of_mem
theorem zR:type_of% @List.mem_cons_self:=@List.mem_cons_self
theorem zS:type_of% @List.mem_map:=@List.mem_map
theorem zT:type_of% @List.eq_nil_of_length_eq_zero:=@List.eq_nil_of_length_eq_zero
theorem zU:type_of% @List.drop_drop:=@List.drop_drop
theorem zV:type_of% @Nat.lt_or_ge:=@Nat.lt_or_ge
theorem zW:type_of% @List.length_append:=@List.length_append
theorem zX:type_of% @List.length_nil:=@List.length_nil
theorem zY:type_of% @List.mem_append_right:=@List.mem_append_right
theorem zZ:type_of% @List.mem_singleton:=@List.mem_singleton
theorem ZA:type_of% @List.mem_append:=@List.mem_append
theorem ZB:type_of% @List.mem_append_left:=@List.mem_append_left
theorem ZC:type_of% @List.append_nil:=@List.append_nil
theorem ZD:type_of% @List.mem_filter:=@List.mem_filter
theorem ZE:type_of% @List.map_map:=@List.map_map
theorem ZF:type_of% @List.filter_sublist:=@List.filter_sublist
theorem ZG:type_of% @List.mem_iff_getElem:=@List.mem_iff_getElem
theorem ZH:type_of% @Nat.lt_of_lt_of_le:=@Nat.lt_of_lt_of_le
theorem ZI:type_of% @Nat.le_trans:=@Nat.le_trans
theorem ZJ:type_of% @Nat.zero_lt_one:=@Nat.zero_lt_one
theorem ZK:type_of% @List.length_singleton:=@List.length_singleton
theorem ZL:type_of% @World.ownsRow_nil:=@World.ownsRow_nil
theorem ZM:type_of% @Nat.zero_lt_succ:=@Nat.zero_lt_succ
theorem ZN:type_of% @List.getElem?_map:=@List.getElem?_map
theorem ZO:type_of% @Option.map_eq_some_iff:=@Option.map_eq_some_iff
theorem ZP:type_of% @List.mem_of_getElem?:=@List.mem_of_getElem?
theorem ZQ:type_of% @List.filter_eq_self:=@List.filter_eq_self
theorem ZR:type_of% @List.map_congr_left:=@List.map_congr_left
theorem ZT:type_of% @List.length_filter_le:=@List.length_filter_le
theorem ZU:type_of% @Bool.and_eq_true:=@Bool.and_eq_true
theorem ZV:type_of% @List.flatMap_cons:=@List.flatMap_cons
theorem ZW:type_of% @List.getElem?_append_right:=@List.getElem?_append_right
theorem ZX:type_of% @List.length_pos_iff:=@List.length_pos_iff
theorem ZY:type_of% @List.lt_irrefl:=@List.lt_irrefl
theorem ZZ:type_of% @List.length_set:=@List.length_set
theorem xB:type_of% @List.getElem?_eq_getElem:=@List.getElem?_eq_getElem
theorem xC:type_of% @List.getElem?_set_ne:=@List.getElem?_set_ne
theorem xD:type_of% @Nat.min_eq_left:=@Nat.min_eq_left
theorem xE:type_of% @List.take_append_of_le_length:=@List.take_append_of_le_length
theorem xF:type_of% @List.take_of_length_le:=@List.take_of_length_le
theorem xG:type_of% @List.getElem?_cons_succ:=@List.getElem?_cons_succ
theorem xH:type_of% @List.take_add_one:=@List.take_add_one
theorem xI:type_of% @World.block_lt_of_cell?:=@World.block_lt_of_cell?
theorem xJ:type_of% @World.size_alloc:=@World.size_alloc
theorem xK:type_of% @Nat.zero_add:=@Nat.zero_add
theorem xL:type_of% @List.nil_append:=@List.nil_append
theorem xM:type_of% @List.cons_append:=@List.cons_append
theorem xO:type_of% @Option.toList_some:=@Option.toList_some
theorem xP:type_of% @List.map_append:=@List.map_append
theorem xQ:type_of% @List.take_append_drop:=@List.take_append_drop
theorem xR:type_of% @List.take_length:=@List.take_length
theorem xS:type_of% @List.pairwise_map:=@List.pairwise_map
theorem xU:type_of% @List.mergeSort_perm:=@List.mergeSort_perm
theorem xV:type_of% @List.getElem_mem:=@List.getElem_mem
theorem xW:type_of% @List.getElem?_take:=@List.getElem?_take
theorem xX:type_of% @List.getElem_cons_drop:=@List.getElem_cons_drop
theorem xY:type_of% @List.size_toArray:=@List.size_toArray
theorem xZ:type_of% @Array.replicate_succ:=@Array.replicate_succ
theorem XA:type_of% @Array.replicate_zero:=@Array.replicate_zero
theorem XB:type_of% @List.push_toArray:=@List.push_toArray
theorem XC:type_of% @List.append_toArray:=@List.append_toArray
theorem XD:type_of% @List.pairwise_cons:=@List.pairwise_cons
theorem XE:type_of% @List.nodup_cons:=@List.nodup_cons
theorem XF:type_of% @List.pairwise_iff_getElem:=@List.pairwise_iff_getElem
theorem XG:type_of% @List.take_succ_eq_append_getElem:=@List.take_succ_eq_append_getElem
theorem XH:type_of% @List.lt_trans:=@List.lt_trans
theorem XI:type_of% @List.getElem?_eq_none:=@List.getElem?_eq_none
theorem XJ:type_of% @List.not_mem_nil:=@List.not_mem_nil
theorem XK:type_of% @List.take_left:=@List.take_left
theorem XL:type_of% @List.append_assoc:=@List.append_assoc
theorem XM:type_of% @List.foldl_append:=@List.foldl_append
theorem XN:type_of% @List.foldl_cons:=@List.foldl_cons
theorem XO:type_of% @Nat.add_assoc:=@Nat.add_assoc
theorem XP:type_of% @Nat.lt_of_le_of_lt:=@Nat.lt_of_le_of_lt
theorem XQ:type_of% @List.length_drop:=@List.length_drop
theorem XR:type_of% @List.drop_of_length_le:=@List.drop_of_length_le
theorem XS:type_of% @List.getElem?_append_left:=@List.getElem?_append_left
theorem XT:type_of% @List.flatMap_append:=@List.flatMap_append
theorem XU:type_of% @UInt8.toNat_ofNat':=@UInt8.toNat_ofNat'
theorem XV:type_of% @List.filter_cons_of_neg:=@List.filter_cons_of_neg
theorem XW:type_of% @List.filter_cons_of_pos:=@List.filter_cons_of_pos
theorem XX:type_of% @List.mem_of_mem_drop:=@List.mem_of_mem_drop
theorem XY:type_of% @List.drop_append_of_le_length:=@List.drop_append_of_le_length
theorem XZ:type_of% @Nat.lt_irrefl:=@Nat.lt_irrefl
theorem yA:type_of% @List.filter_append:=@List.filter_append
theorem yB:type_of% @List.filter_filter:=@List.filter_filter
theorem yC:type_of% @Array.length_toList:=@Array.length_toList
theorem yD:type_of% @List.drop_eq_nil_of_le:=@List.drop_eq_nil_of_le
theorem yE:type_of% @Classical.byContradiction:=@Classical.byContradiction
end Go.Proofs.YtnipbplghijdmaaGreatDoor
namespace Go.Proofs.YtnipbplghijdmaaGreatDoor.Rf
variable {a b k l q r t:List UInt8} {F i j most n num:Nat} {p:Nat×List UInt8}
def big(n:Nat):Nat->List UInt8
 | 0=>[]
 | m+1=>big (n/256) m++[UInt8.ofNat (n%256)]
theorem js(n m:Nat):(big n m).length=m:=by
 induction m generalizing n with
 | zero=>rfl
 | succ m ih=>simp[big,ih]
def Q4(n:Nat):List UInt8:=if h:n<10 then [UInt8.ofNat (48+n)] else Q4 (n/10)++[UInt8.ofNat (48+n%10)]
def bit(c:Nat):Nat:=if c%2=1 then(c/2) ^^^ 2197175160 else c/2
def bits:Nat->Nat->Nat
 | 0,c=>c
 | k+1,c=>bits k (bit c)
def cx(c:Nat)(x:UInt8):Nat:=bits 8 (c ^^^ x.toNat)
def sum(l:List UInt8):Nat:=4294967295-l.foldl cx 4294967295
def frame(l:List UInt8):List UInt8:=big l.length 4++big (sum l) 4++l
structure Ch where
 key:List UInt8
 value:List UInt8
 gone:Bool
def text(l:List UInt8):List UInt8:=big l.length 1++l
def entry(c:Ch):List UInt8:=if c.gone then 2::text c.key else 1::(text c.key++text c.value)
def jk:Nat->List (List Ch)->List UInt8
 | _,[]=>[]
 | last,b::r=>frame (big (last+1) 8++big b.length 1++b.flatMap entry)++jk (last+1) r
def ff(next last log base:Nat)(runs:List Nat):List UInt8:=frame (big next 8++big last 8++big log 8++big base 8++big runs.length 2++runs.flatMap fun r=>big r 8)
def number(l:List UInt8):Nat:=l.foldl (fun n x=>n*256+x.toNat) 0
theorem rm(l:List UInt8)(x:UInt8):number (l++[x])=number l*256+x.toNat:=by simp[number,XM]
theorem Js(n m:Nat)(h:n<256^m):number (big n m)=n:=by
 induction m generalizing n with
 | zero=>simp at h;subst h;rfl
 | succ m ih =>
  have c:n/256<256^m:=by rw[Nat.div_lt_iff_lt_mul (by omega)];rw[Nat.pow_succ] at h;exact h
  rw[big,rm,ih _ c];have b:(UInt8.ofNat (n%256)).toNat=n%256:=by simp[XU]
  rw[b];omega
theorem Zz(l:List UInt8):number l<256^l.length:=by
 have H:∀(l:List UInt8) (n:Nat),l.foldl (fun n x=>n*256+x.toNat) n<(n+1)*256^l.length:=by
  intro l
  induction l with
  | nil=>intro n;simp
  | cons x r ih =>
   intro n
   have d:x.toNat<256:=x.toNat_lt
   have c:=ih (n*256+x.toNat)
   have b:n*256+x.toNat+1<=(n+1)*256:=by omega
   calc (x::r).foldl (fun n x=>n*256+x.toNat) n=r.foldl (fun n x=>n*256+x.toNat) (n*256+x.toNat):=rfl
    _<(n*256+x.toNat+1)*256^r.length:=c
    _<=((n+1)*256)*256^r.length:=Nat.mul_le_mul_right _ b
    _=(n+1)*256^(x::r).length:=by rw[zH,Nat.pow_succ,Nat.mul_assoc,Nat.mul_comm 256]
 have:=H l 0
 simpa [number] using this
theorem wg:∀(k:Nat) (l:List UInt8),l.length=k->big (number l) k=l:=by
 intro k
 induction k with
 | zero=>intro l c;rw[zT c];rfl
 | succ k ih =>
  intro l c;have b:l≠[]:=fun e=>by rw[e] at c;simp at c
  have e:l=l.dropLast++[l.getLast b]:=(List.dropLast_concat_getLast b).symm;have d:l.dropLast.length=k:=by simp[c]
  have j:(l.getLast b).toNat<256:=(l.getLast b).toNat_lt;have f:number l=number l.dropLast*256+(l.getLast b).toNat:=by rw[<-rm,<-e]
  have i:number l/256=number l.dropLast:=by rw[f];omega
  have g:number l%256=(l.getLast b).toNat:=by rw[f];omega
  rw[big,i,g,ih _ d]
  conv=>rhs;rw[e]
  simp
def xh(l:List UInt8):Option (List UInt8×List UInt8) :=
 if 8<=l.length/\8+number (l.take 4)<=l.length/\sum ((l.drop 8).take (number (l.take 4)))=number ((l.drop 4).take 4)then some ((l.drop 8).take (number (l.take 4)),l.drop (8+number (l.take 4)))else none
theorem M5(l:List UInt8):sum l<256^4:=by
 unfold sum;omega
theorem Xh(l r:List UInt8)(h:l.length<256^4):xh (frame l++r)=some (l,r):=by
 have c:(big l.length 4).length=4:=js _ _;have b:(big (sum l) 4).length=4:=js _ _
 have k:(frame l++r).take 4=big l.length 4:=by
  unfold frame;rw[XL,XL,xE (by omega),xF (by omega)]
 have j:((frame l++r).drop 4).take 4=big (sum l) 4:=by
  unfold frame;rw[XL,XL,XY (by omega),XR (by omega),xL,xE (by omega),xF (by omega)]
 have d:(frame l++r).drop 8=l++r:=by
  unfold frame;rw[XL];have:(big l.length 4++big (sum l) 4).length=8:=by simp[c,b]
  rw[XY (by omega),XR (by omega),xL]
 have i:(frame l++r).length=8+l.length+r.length:=by unfold frame;simp[c,b];omega
 unfold xh;rw[k,j,d,Js _ _ h,Js _ _ (M5 l),i];have g:(l++r).take l.length=l:=by simp
 rw[g];rw[if_pos ⟨by omega,by omega,rfl⟩]
 have f:(frame l++r).drop (8+l.length)=r:=by
  rw[<-zU,d];simp
 rw[f]
theorem u2(h:xh l=some (b,r)):l=frame b++r:=by
 unfold xh at h
 split at h
 ·rename_i hc
  obtain⟨j,i,d⟩:=hc;cases h;have c:((l.drop 8).take (number (l.take 4))).length=number (l.take 4):=by simp;omega
  unfold frame;rw[c,d,wg 4 (l.take 4) (by simp;omega),wg 4 ((l.drop 4).take 4) (by simp;omega)];have g:l.take 4++(l.drop 4).take 4=l.take 8:=by rw[<-List.take_add]
  rw[g,XL];have f:(l.drop 8).take (number (l.take 4))++l.drop (8+number (l.take 4))=l.drop 8:=by rw[<-zU,xQ]
  rw[f,xQ]
 ·cases h
def jw(l:List Ch):Prop:=l.Pairwise (fun a b=>a.key<b.key)
def ins(c:Ch):List Ch->List Ch
 | []=>[c]
 | x::r=>if c.key<x.key then c::x::r else if x.key=c.key then c::r else x::ins c r
theorem Nw{c x:Ch}{l:List Ch}(h:x∈ins c l):x=c\/x∈l:=by
 induction l with
 | nil=>simp[ins] at h;exact .inl h
 | cons y r ih =>
  unfold ins at h
  split at h
  ·rcases zF.1 h with h|h
   ·exact .inl h
   ·exact .inr h
  ·split at h
   ·rcases zF.1 h with h|h
    ·exact .inl h
    ·exact .inr (zQ _ h)
   ·rcases zF.1 h with h|h
    ·exact .inr (h▸zR)
    ·rcases ih h with h|h
     ·exact .inl h
     ·exact .inr (zQ _ h)
theorem Jq{c:Ch}{l:List Ch}(h:jw l):jw (ins c l):=by
 induction l with
 | nil=>simp[ins,jw]
 | cons x r ih =>
  have g:=h;unfold jw at h;rw[XD] at h;obtain⟨d,f⟩:=h;unfold ins
  split
  ·rename_i hlt
   refine XD.2 ⟨fun y b=>?_,g⟩;rcases zF.1 b with rfl|b
   ·exact hlt
   ·exact XH hlt (d y b)
  ·split
   ·rename_i _ he
    exact XD.2 ⟨fun y b=>he▸d y b,f⟩
   ·rename_i hn he
    refine XD.2 ⟨fun y b=>?_,ih f⟩;rcases Nw b with rfl|b
    ·rcases Std.lt_trichotomy x.key y.key with h|h|h
     ·exact h
     ·exact absurd h he
     ·exact absurd h hn
    ·exact d y b
def zk(c:Ch)(s:List Ch×Bool)(x:Ch):List Ch×Bool :=
 let s1:=if s.2=false/\¬x.key<c.key then(s.1++[c],true)else s
 if x.key≠c.key then(s1.1++[x],s1.2)else s1
def im(c:Ch)(s:List Ch×Bool):List Ch:=if s.2=false then s.1++[c] else s.1
def put(l:List Ch)(c:Ch):List Ch:=im c (l.foldl (zk c) ([],false))
theorem Al{c:Ch}{l out:List Ch}(h:∀ x∈l,x.key≠c.key):l.foldl (zk c) (out,true)=(out++l,true):=by
 induction l generalizing out with
 | nil=>simp
 | cons x r ih =>
  have b:=h x zR;rw[XN];have e:zk c (out,true) x=(out++[x],true):=by simp[zk,b]
  rw[e,ih (fun y hy=>h y (zQ _ hy))];simp
theorem Cs{c:Ch}{l out:List Ch}(h:jw l):im c (l.foldl (zk c) (out,false))=out++ins c l:=by
 induction l generalizing out with
 | nil=>simp[ins,im]
 | cons x r ih =>
  unfold jw at h;rw[XD] at h;obtain⟨f,i⟩:=h;rw[XN];unfold ins;by_cases hlt:c.key<x.key
  ·have d:¬x.key<c.key:=List.lt_asymm hlt
   have b:x.key≠c.key:=fun e=>ZY x.key (by rw[e] at hlt;exact absurd hlt (ZY _));have e:zk c (out,false) x=(out++[c]++[x],true):=by simp[zk,d,b]
   rw[e,Al (fun y hy e=>by have:=XH hlt (f y hy);rw[e] at this;exact ZY _ this),if_pos hlt];simp[im]
  ·rw[if_neg hlt]
   by_cases he:x.key=c.key
   ·rw[if_pos he]
    have d:¬x.key<c.key:=by rw[he];exact ZY _
    have e:zk c (out,false) x=(out++[c],true):=by simp[zk,he]
    rw[e,Al (fun y hy e=>ZY c.key (by have:=f y hy;rw[he,e] at this;exact this))];simp[im]
   ·rw[if_neg he]
    have g:x.key<c.key:=by
     rcases Std.lt_trichotomy x.key c.key with h|h|h
     ·exact h
     ·exact absurd h he
     ·exact absurd h hlt
    have e:zk c (out,false) x=(out++[x],false):=by simp[zk,g,he]
    rw[e,ih i];simp
theorem X3{c:Ch}{l:List Ch}(h:jw l):put l c=ins c l:=by
 have:=Cs (c:=c) (out:=[]) h;simpa [put] using this
def below(l:List Ch)(k:List UInt8):Nat:=(l.takeWhile (fun x=>decide (x.key<k))).length
def uz(c:Ch)(l:List Ch):List Ch :=
 if (l[below l c.key]?).map Ch.key=some c.key then l.set (below l c.key) c else l.take (below l c.key)++c::l.drop (below l c.key)
theorem jbt{c:Ch}{l:List Ch}(h:jw l):uz c l=ins c l:=by
 induction l with
 | nil=>simp[uz,ins,below]
 | cons x r ih =>
  unfold jw at h;rw[XD] at h;obtain⟨j,i⟩:=h;by_cases hx:x.key<c.key
  ·have b:below (x::r) c.key=below r c.key+1:=by simp[below,hx]
   have e:uz c (x::r)=x::uz c r:=by
    unfold uz;rw[b];simp only[xG,List.set_cons_succ,List.take_succ_cons,List.drop_succ_cons,xM]
    split<;>rfl
   rw[e,ih i];have f:¬c.key<x.key:=List.lt_asymm hx;have d:x.key≠c.key:=fun e=>by rw[e] at hx;exact ZY _ hx
   simp[ins,f,d]
  ·have b:below (x::r) c.key=0:=by simp[below,hx]
   unfold uz;rw[b];by_cases he:x.key=c.key
   ·have f:¬c.key<x.key:=by rw[he];exact ZY _
    simp[ins,he]
   ·have g:c.key<x.key:=by
     rcases Std.lt_trichotomy x.key c.key with h|h|h
     ·exact absurd h hx
     ·exact absurd h he
     ·exact h
    simp[ins,g,he]
def over(l more:List Ch):List Ch:=more.foldl (fun l c=>put l c) l
def there(l:List Ch):List Ch:=l.filter (fun c=>!c.gone)
theorem ym{l more:List Ch}(h:jw l):jw (over l more):=by
 induction more generalizing l with
 | nil=>exact h
 | cons c r ih =>
  have e:over l (c::r)=over (put l c) r:=rfl;rw[e];exact ih (by rw[X3 h];exact Jq h)
theorem Mc(l more:List Ch)(c:Ch):over l (more++[c])=put (over l more) c:=by simp[over,XM]
theorem jd7{l:List Ch}{c:Ch}(h:∀ x∈l,x.key<c.key):ins c l=l++[c]:=by
 induction l with
 | nil=>rfl
 | cons x r ih =>
  have b:=h x zR;have f:¬c.key<x.key:=List.lt_asymm b;have d:x.key≠c.key:=fun e=>by rw[e] at b;exact ZY _ b
  simp[ins,f,d,ih (fun y hy=>h y (zQ _ hy))]
theorem jdg{l:List Ch}(h:jw l):over [] l=l:=by
 have H:∀(b a:List Ch),jw (a++b)->over a b=a++b:=by
  intro b
  induction b with
  | nil=>intro a _;simp[over]
  | cons c r ih =>
   intro a d;have e:over a (c::r)=over (put a c) r:=rfl;have i:=d;unfold jw at d;rw[List.pairwise_append] at d;obtain⟨g,_,f⟩:=d;rw[e,X3 g,jd7 (fun x hx=>f x hx c zR),ih]
   ·simp
   ·simpa using i
 simpa using H l [] (by simpa using h)
def memory(bs:List (List Ch)):List Ch:=bs.foldl over []
theorem zb(bs:List (List Ch)):jw (memory bs):=by
 have H:∀(bs:List (List Ch)) (l:List Ch),jw l->jw (bs.foldl over l):=by
  intro bs
  induction bs with
  | nil=>intro l h;exact h
  | cons b r ih=>intro l h;exact ih _ (ym h)
 exact H bs [] List.Pairwise.nil
theorem Cv(bs:List (List Ch))(b:List Ch):memory (bs++[b])=over (memory bs) b:=by simp[memory,XM]
def x8(l:List Ch)(k:List UInt8):Option Ch:=l.find? (fun c=>decide (c.key=k))
def Oa(a b:List UInt8)(c:Ch):Bool:=decide (¬c.key<a)&&(decide (b=[])||decide (c.key<b))
def pj(l:List Ch)(a b:List UInt8)(most:Nat):List Ch:=((there l).filter (Oa a b)).take most
theorem vy{l:List Ch}(h:jw l)(k:List UInt8):l.drop (below l k)=l.filter (fun c=>decide (¬c.key<k)):=by
 induction l with
 | nil=>simp[below]
 | cons x r ih =>
  unfold jw at h;rw[XD] at h;by_cases hx:x.key<k
  ·have b:below (x::r) k=below r k+1:=by simp[below,hx]
   rw[b];simp[ih h.2,hx]
  ·have b:below (x::r) k=0:=by simp[below,hx]
   rw[b];have d:∀ c∈r,¬c.key<k:=fun c hc e=>hx (XH (h.1 c hc) e);have:r.filter (fun c=>decide (¬c.key<k))=r:=ZQ.2 (fun c hc=>by simpa using d c hc);simp only[List.drop_zero];rw[XW (by simpa using hx),this]
theorem jbw{l:List Ch}(h:jw l)(k:List UInt8):x8 l k=(l[below l k]?).filter (fun c=>decide (c.key=k)):=by
 induction l with
 | nil=>simp[x8,below]
 | cons x r ih =>
  unfold jw at h;rw[XD] at h;by_cases hx:x.key<k
  ·have b:below (x::r) k=below r k+1:=by simp[below,hx]
   have d:x.key≠k:=fun e=>by rw[e] at hx;exact ZY _ hx
   rw[b,xG,<-ih h.2];simp[x8,d]
  ·have b:below (x::r) k=0:=by simp[below,hx]
   rw[b];by_cases he:x.key=k
   ·simp[x8,he,Option.filter]
   ·have f:∀ c∈r,c.key≠k:=fun c hc e=>hx (e▸h.1 c hc)
    have:x8 r k=none:=List.find?_eq_none.2 (fun c hc=>by simpa using f c hc);simp[x8,he,Option.filter] at this ⊢;exact this
theorem takeWhile_filter{l:List Ch}(h:jw l)(b:List UInt8):l.takeWhile (fun c=>decide (b=[])||decide (c.key<b))=l.filter (fun c=>decide (b=[])||decide (c.key<b)):=by
 induction l with
 | nil=>rfl
 | cons x r ih =>
  unfold jw at h;rw[XD] at h;by_cases hx:(decide (b=[])||decide (x.key<b))=true
  ·rw[List.takeWhile_cons_of_pos (p:=fun c:Ch=>decide (b=[])||decide (c.key<b)) hx,XW (p:=fun c:Ch=>decide (b=[])||decide (c.key<b)) hx,ih h.2]
  ·have d:∀ c∈r,¬(decide (b=[])||decide (c.key<b))=true:=by
    intro c f e;simp at hx e;rcases e with e|e
    ·exact hx.1 e
    ·exact hx.2 (XH (h.1 c f) e)
   rw[List.takeWhile_cons_of_neg (p:=fun c:Ch=>decide (b=[])||decide (c.key<b)) hx,XV (p:=fun c:Ch=>decide (b=[])||decide (c.key<b)) hx,List.filter_eq_nil_iff.2 d]
def allowed(c:Ch):Bool:=decide (1<=c.key.length)&&decide (c.key.length<=16)&&decide (c.value.length<=40)&&!(c.gone&&decide (c.value≠[]))
theorem Jk(c:Ch):allowed c=true↔1<=c.key.length/\c.key.length<=16/\c.value.length<=40/\(c.gone=true->c.value=[]):=by
 unfold allowed;cases c.gone<;>simp[and_assoc]
def zq(b:List Ch):Bool:=decide (1<=b.length)&&decide (b.length<=8)&&b.all allowed
def ya:List UInt8->Option (List UInt8×List UInt8)
 | []=>none
 | n::r=>if n.toNat<=r.length then some (r.take n.toNat,r.drop n.toNat)else none
def Jh:List UInt8->Option (Ch×List UInt8)
 | []=>none
 | k::r =>
  if k=1 then
   match ya r with
   | none=>none
   | some (key,r1) =>
    match ya r1 with
    | none=>none
    | some (v,r2)=>if allowed ⟨key,v,false⟩ then some (⟨key,v,false⟩,r2)else none
  else if k=2 then
   match ya r with
   | none=>none
   | some (key,r1)=>if allowed ⟨key,[],true⟩ then some (⟨key,[],true⟩,r1)else none
  else none
def qw:Nat->List UInt8->Option (List Ch×List UInt8)
 | 0,l=>some ([],l)
 | n+1,l =>
  match Jh l with
  | none=>none
  | some (c,r) =>
   match qw n r with
   | none=>none
   | some (cs,r')=>some (c::cs,r')
def Jy(most:Nat):List UInt8->Option (List Ch)
 | []=>none
 | n::r=>if 1<=n.toNat/\n.toNat<=most then
     match qw n.toNat r with
     | some (cs,[])=>some cs
     | _=>none
  else none
def Y0(num:Nat)(l:List UInt8):Option (List Ch):=if 8<=l.length/\number (l.take 8)=num then Jy 8 (l.drop 8)else none
def zr(num:Nat)(l:List UInt8):Option (List Ch×List UInt8) :=
 match xh l with
 | none=>none
 | some (h,r) =>
  match Y0 num h with
  | none=>none
  | some b=>some (b,r)
theorem ua(n:Nat):big n 1=[UInt8.ofNat (n%256)]:=by simp[big]
theorem aa(h:t.length<256)(r:List UInt8):ya (text t++r)=some (t,r):=by
 have e:(UInt8.ofNat (t.length%256)).toNat=t.length:=by simp[XU];omega
 have b:text t++r=UInt8.ofNat (t.length%256)::(t++r):=by simp[text,ua]
 rw[b];simp only[ya,e];rw[if_pos (by simp)];simp
theorem cu(h:ya l=some (t,r)):l=text t++r/\t.length<256:=by
 cases l with
 | nil=>simp[ya] at h
 | cons n q =>
  simp only[ya] at h
  split at h
  ·rename_i hn
   cases h;have b:n.toNat<256:=n.toNat_lt;have c:(q.take n.toNat).length=n.toNat:=by simp;omega
   refine⟨?_,by omega⟩;unfold text;rw[c,ua,Nat.mod_eq_of_lt b];simp
  ·cases h
theorem Di{c:Ch}(h:allowed c=true)(r:List UInt8):Jh (entry c++r)=some (c,r):=by
 obtain⟨k,v,g⟩:=c;have d:=(Jk _).1 h;simp only at d
 cases g with
 | false =>
  have e:entry ⟨k,v,false⟩++r=1::(text k++(text v++r)):=by simp[entry]
  rw[e];simp only[Jh,aa (show k.length<256 by omega),aa (show v.length<256 by omega),h];simp
 | true =>
  have f:v=[]:=d.2.2.2 rfl;subst f;have e:entry ⟨k,[],true⟩++r=2::(text k++r):=by simp[entry]
  rw[e];have b:¬(2:UInt8)=1:=by decide
  simp only[Jh,if_neg b,aa (show k.length<256 by omega),h];simp
theorem Lm{c:Ch}(h:Jh l=some (c,r)):l=entry c++r/\allowed c=true:=by
 cases l with
 | nil=>simp[Jh] at h
 | cons k q =>
  simp only[Jh] at h
  split at h
  ·rename_i hk
   subst hk
   cases h1:ya q with
   | none=>rw[h1] at h;cases h
   | some p =>
    obtain⟨key,d⟩:=p;rw[h1] at h;simp only at h
    cases h2:ya d with
    | none=>rw[h2] at h;cases h
    | some p =>
     obtain⟨v,g⟩:=p;rw[h2] at h;simp only at h
     split at h
     ·rename_i ha
      cases h;have b:=(cu h1).1;have f:=(cu h2).1;refine⟨?_,ha⟩;rw[b,f];simp[entry]
     ·cases h
  ·split at h
   ·rename_i _ hk
    subst hk
    cases h1:ya q with
    | none=>rw[h1] at h;cases h
    | some p =>
     obtain⟨key,d⟩:=p;rw[h1] at h;simp only at h
     split at h
     ·rename_i ha
      cases h;have b:=(cu h1).1;refine⟨?_,ha⟩;rw[b];simp[entry]
     ·cases h
   ·cases h
theorem Bo{cs:List Ch}(h:∀ c∈cs,allowed c=true)(r:List UInt8):qw cs.length (cs.flatMap entry++r)=some (cs,r):=by
 induction cs with
 | nil=>simp[qw]
 | cons c q ih =>
  have e:(c::q).flatMap entry++r=entry c++(q.flatMap entry++r):=by simp
  rw[e,zH,qw,Di (h c zR)];simp only[ih (fun x hx=>h x (zQ _ hx))]
theorem Of{cs:List Ch}(h:qw n l=some (cs,r)):l=cs.flatMap entry++r/\cs.length=n/\∀ c∈cs,allowed c=true:=by
 induction n generalizing l cs with
 | zero=>simp[qw] at h;obtain⟨rfl,rfl⟩:=h;simp
 | succ n ih =>
  rw[qw] at h
  cases h1:Jh l with
  | none=>rw[h1] at h;cases h
  | some p =>
   obtain⟨c,q⟩:=p;rw[h1] at h;simp only at h
   cases h2:qw n q with
   | none=>rw[h2] at h;cases h
   | some p =>
    obtain⟨ds,k⟩:=p;rw[h2] at h;cases h;obtain⟨j,i,g⟩:=ih h2;obtain⟨f,d⟩:=Lm h1;refine⟨by rw[f,j];simp,by simp[i],fun x b=>?_⟩;rcases zF.1 b with rfl|b
    ·exact d
    ·exact g x b
theorem kx{cs:List Ch}(d:1<=cs.length)(b:cs.length<=most)(f:most<256)(h:∀ c∈cs,allowed c=true):Jy most (big cs.length 1++cs.flatMap entry)=some cs:=by
 have e:(UInt8.ofNat (cs.length%256)).toNat=cs.length:=by simp[XU];omega
 rw[ua];simp only[List.singleton_append,Jy];rw[e,if_pos ⟨d,b⟩];have:=Bo h [];rw[ZC] at this;rw[this]
theorem Ar{cs:List Ch}(h:Jy most l=some cs):l=big cs.length 1++cs.flatMap entry/\1<=cs.length/\cs.length<=most/\∀ c∈cs,allowed c=true:=by
 cases l with
 | nil=>simp[Jy] at h
 | cons n q =>
  simp only[Jy] at h
  split at h
  ·rename_i hn
   split at h
   ·rename_i cs' h1
    cases h;obtain⟨g,f,d⟩:=Of h1;have b:n.toNat<256:=n.toNat_lt;refine⟨?_,by omega,by omega,d⟩;rw[f,ua,Nat.mod_eq_of_lt b,g];simp
   ·cases h
  ·cases h
def jm(num:Nat)(b:List Ch):List UInt8:=frame (big num 8++big b.length 1++b.flatMap entry)
theorem Oj{c:Ch}(h:allowed c=true):(entry c).length<=59:=by
 have b:=(Jk _).1 h;unfold entry
 split<;>simp[text,js]<;>omega
theorem Y3{b:List Ch}(h:∀ c∈b,allowed c=true):(b.flatMap entry).length<=59*b.length:=by
 induction b with
 | nil=>simp
 | cons c r ih =>
  have f:=Oj (h c zR);have d:=ih (fun x hx=>h x (zQ _ hx));simp only[ZV,zW,zH];omega
theorem Ji(b:List Ch):zq b=true↔1<=b.length/\b.length<=8/\∀ c∈b,allowed c=true:=by
 simp[zq,and_assoc]
theorem Fy{b:List Ch}(d:num<256^8)(h:zq b=true)(r:List UInt8):zr num (jm num b++r)=some (b,r):=by
 obtain⟨i,g,c⟩:=(Ji b).1 h;have l:=Y3 c;have f:(big num 8++big b.length 1++b.flatMap entry).length<256^4:=by rw[zW,zW,js,js];omega
 unfold zr jm;rw[Xh _ _ f];have m:(big num 8).length=8:=js _ _
 have k:(big num 8++big b.length 1++b.flatMap entry).take 8=big num 8:=by
  rw[XL,xE (by omega),xF (by omega)]
 have j:(big num 8++big b.length 1++b.flatMap entry).drop 8=big b.length 1++b.flatMap entry:=by
  rw[XL,XY (by omega),XR (by omega),xL]
 simp only[Y0,k,j,Js _ _ d,kx i g (by omega) c];simp[js]
theorem gu{b:List Ch}(h:zr num l=some (b,r)):l=jm num b++r/\zq b=true:=by
 unfold zr at h
 cases h1:xh l with
 | none=>rw[h1] at h;cases h
 | some p =>
  obtain⟨x,q⟩:=p;rw[h1] at h;simp only at h
  cases h2:Y0 num x with
  | none=>rw[h2] at h;cases h
  | some b' =>
   rw[h2] at h;cases h;unfold Y0 at h2
   split at h2
   ·rename_i hc
    obtain⟨k,c⟩:=hc;obtain⟨j,i,g,f⟩:=Ar h2;refine⟨?_,(Ji b).2 ⟨i,g,f⟩⟩;rw[u2 h1];unfold jm;have d:big num 8=x.take 8:=by rw[<-c];exact wg 8 _ (by simp;omega)
    rw[d,XL,<-j,xQ]
   ·cases h2
theorem al(last:Nat)(bs:List (List Ch))(b:List Ch):jk last (bs++[b])=jk last bs++jm (last+bs.length+1) b:=by
 induction bs generalizing last with
 | nil=>simp[jk,jm]
 | cons x r ih =>
  simp only[xM,jk,ih,zH,XL];rw[show last+1+r.length+1=last+(r.length+1)+1 by omega]
def jes(last:Nat)(l:List UInt8):Nat->List (List Ch)->List UInt8->Prop
 | 0,bs,r=>bs=[]/\r=l
 | n+1,bs,r=>∃ cs q b,bs=cs++[b]/\jes last l n cs q/\last+cs.length<1000000000/\zr (last+cs.length+1) q=some (b,r)
def Jl(last:Nat)(l:List UInt8)(bs:List (List Ch))(r:List UInt8):Prop:=∃ n,jes last l n bs r
theorem Jl.none{last:Nat}:Jl last l [] l:=⟨0,rfl,rfl⟩
theorem Jl.more{last:Nat}{bs:List (List Ch)}{b:List Ch}{c:List UInt8}(h:Jl last l bs r)(f:last+bs.length<1000000000)(d:zr (last+bs.length+1) r=some (b,c)):Jl last l (bs++[b]) c:=by
 obtain⟨n,h⟩:=h;exact⟨n+1,bs,r,b,rfl,h,f,d⟩
theorem Jl.elim{last:Nat}{M:List (List Ch)->List UInt8->Prop}(i:M [] l)(g:∀ bs r b r',Jl last l bs r->last+bs.length<1000000000->zr (last+bs.length+1) r=some (b,r')->M bs r->M (bs++[b]) r'){bs:List (List Ch)}(h:Jl last l bs r):M bs r:=by
 obtain⟨n,h⟩:=h
 induction n generalizing bs r with
 | zero=>obtain⟨rfl,rfl⟩:=h;exact i
 | succ n ih =>
  obtain⟨cs,q,b,rfl,c,f,d⟩:=h;exact g cs q b r ⟨n,c⟩ f d (ih c)
theorem Jl.inv{last:Nat}{bs:List (List Ch)}(h:Jl last l bs r):(bs=[]/\r=l)\/∃ cs q b,bs=cs++[b]/\Jl last l cs q/\last+cs.length<1000000000/\zr (last+cs.length+1) q=some (b,r):=by
 obtain⟨n,h⟩:=h
 cases n with
 | zero=>exact .inl h
 | succ n =>
  obtain⟨cs,q,b,e,f,d,c⟩:=h;exact .inr ⟨cs,q,b,e,⟨n,f⟩,d,c⟩
def Over(last:Nat)(bs:List (List Ch))(r:List UInt8):Prop:=¬last+bs.length<1000000000\/zr (last+bs.length+1) r=none
theorem Jl.bytes{last:Nat}{bs:List (List Ch)}(h:Jl last l bs r):l=jk last bs++r/\∀ b∈bs,zq b=true:=by
 refine Jl.elim (M:=fun bs r=>l=jk last bs++r/\∀ b∈bs,zq b=true) ⟨rfl,fun _ h=>by cases h⟩ ?_ h
 ·intro bs r b i k j d ih
  obtain⟨g,f⟩:=gu d;refine⟨?_,fun x c=>?_⟩
  ·rw[al,XL,<-g];exact ih.1
  ·rcases ZA.1 c with c|c
   ·exact ih.2 x c
   ·rw[zZ.1 c];exact f
theorem Jl.pfx{last:Nat}{bs cs:List (List Ch)}(h:Jl last l bs r)(k:Jl last l cs q)(d:bs.length=cs.length):bs=cs/\r=q:=by
 refine Jl.elim (M:=fun bs r=>∀ cs q,Jl last l cs q->bs.length=cs.length->bs=cs/\r=q) ?_ ?_ h cs q k d
 ·intro cs q k d
  rcases k.inv with⟨rfl,rfl⟩|⟨f,g,b,rfl,_⟩
  ·exact⟨rfl,rfl⟩
  ·simp at d
 ·intro bs r b n s p m ih cs q k d
  rcases k.inv with⟨rfl,rfl⟩|⟨f,g,c,rfl,j,o,i⟩
  ·simp at d
  ·obtain⟨rfl,rfl⟩:=ih f g j (by simpa using d)
   rw[m] at i;cases i;exact⟨rfl,rfl⟩
theorem Jl.less{last:Nat}{bs:List (List Ch)}(h:Jl last l bs r):∀ n,n<=bs.length->∃ cs q,Jl last l cs q/\cs.length=n/\(n<bs.length->∃ b q',last+n<1000000000/\zr (last+n+1) q=some (b,q')):=by
 refine Jl.elim (M:=fun bs r=>∀ n,n<=bs.length->∃ cs q,Jl last l cs q/\cs.length=n/\(n<bs.length->∃ b q',last+n<1000000000/\zr (last+n+1) q=some (b,q'))) ?_ ?_ h
 ·intro n c;simp at c;exact⟨[],l,.none,by simp[c],by simp⟩
 ·intro bs r b d k j i ih n c
  by_cases h:n<=bs.length
  ·obtain⟨cs,q,g,f,m⟩:=ih n h
   refine⟨cs,q,g,f,fun _=>?_⟩;by_cases he:n<bs.length
   ·exact m he
   ·have e:cs.length=bs.length:=by omega
    obtain⟨rfl,rfl⟩:=g.pfx k e;subst f;exact⟨b,d,j,i⟩
  ·have e:n=(bs++[b]).length:=by simp at c ⊢;omega
   exact⟨bs++[b],d,.more k j i,e.symm,by omega⟩
theorem Jl.unique{last:Nat}{bs cs:List (List Ch)}(h:Jl last l bs r)(c:Over last bs r)(k:Jl last l cs q)(g:Over last cs q):bs=cs/\r=q:=by
 have H:∀ {bs cs:List (List Ch)} {r q:List UInt8},Jl last l bs r->Over last bs r->Jl last l cs q->¬bs.length<cs.length:=by
  intro bs cs r q h c k d;obtain⟨ds,p,m,j,i⟩:=k.less bs.length (by omega);obtain⟨b,o,n,f⟩:=i d;obtain⟨rfl,rfl⟩:=h.pfx m j.symm;rcases c with c|c
  ·exact c n
  ·rw[c] at f;cases f
 have e:bs.length=cs.length:=by
  have t:=H h c k;have s:=H k g h;omega
 exact h.pfx k e
theorem Lw{last:Nat}{bs:List (List Ch)}(h:∀ b∈bs,zq b=true)(j:last+bs.length<=1000000000)(r:List UInt8):Jl last (jk last bs++r) bs r:=by
 have H:∀(q bs:List (List Ch)),(∀ b∈bs++q,zq b=true)->last+(bs++q).length<=1000000000->∀ c,Jl last (jk last (bs++q)++r) bs (c)->c=jk (last+bs.length) q++r->Jl last (jk last (bs++q)++r) (bs++q) r:=by
  intro q
  induction q with
  | nil=>intro bs _ _ c h e;simp[jk] at e;subst e;simpa using h
  | cons b q ih =>
   intro bs f d c h e;have l:bs++b::q=(bs++[b])++q:=by simp
   have g:zq b=true:=f b (by simp);simp only[zW,zH] at d
   have k:zr (last+bs.length+1) c=some (b,jk (last+bs.length+1) q++r):=by
    rw[e];simp only[jk,XL];have:=Fy (num:=last+bs.length+1) (by omega) g (jk (last+bs.length+1) q++r);simpa [jm] using this
   have i:=Jl.more h (by omega) k;rw[l] at i f ⊢;refine ih (bs++[b]) f (by simp;omega) _ i ?_;simp[XO]
 have:=H bs [] (by simpa using h) (by simpa using j) _ .none (by simp);simpa using this
theorem X4(last:Nat)(bs:List (List Ch)):Over last bs []:=by
 refine .inr ?_;simp[zr,xh]
structure Man where
 next:Nat
 last:Nat
 log:Nat
 base:Nat
 runs:List Nat
def Man.settled(m:Man):List Nat:=if m.base=0 then m.runs else m.runs++[m.base]
def Man.numbers(m:Man):List Nat:=m.settled++[m.log]
abbrev Man.Good(m:Man):Prop:=m.next<=2000000000/\m.last<=1000000000/\(∀ n∈m.numbers,1<=n/\n<m.next)/\m.numbers.Nodup
def Man.bytes(m:Man):List UInt8:=ff m.next m.last m.log m.base m.runs
def zt:Nat->List UInt8->List Nat
 | 0,_=>[]
 | n+1,l=>number (l.take 8)::zt n (l.drop 8)
def Ak(l:List UInt8):Option Man :=
 match xh l with
 | none=>none
 | some (h,r) =>
  if r=[]/\34<=h.length/\h.length=34+8*number ((h.drop 32).take 2)then
   let m:Man:=⟨number (h.take 8),number ((h.drop 8).take 8),number ((h.drop 16).take 8),number ((h.drop 24).take 8),zt (number ((h.drop 32).take 2)) (h.drop 34)⟩
   if m.Good then some m else none
  else none
theorem Lh{rs:List Nat}(h:∀ r∈rs,r<256^8)(q:List UInt8):zt rs.length (rs.flatMap (fun r=>big r 8)++q)=rs:=by
 induction rs with
 | nil=>rfl
 | cons x r ih =>
  have b:(big x 8).length=8:=js _ _;simp only[zH,zt,ZV,XL];rw[xE (by omega),xF (by omega),Js _ _ (h x zR),XY (by omega),XR (by omega),xL,ih (fun y hy=>h y (zQ _ hy))]
theorem Dr(n:Nat)(l:List UInt8):(zt n l).length=n:=by
 induction n generalizing l with
 | zero=>rfl
 | succ n ih=>simp[zt,ih]
theorem Man.Good.bounds{m:Man}(h:m.Good):m.next<256^8/\m.last<256^8/\m.log<256^8/\m.base<256^8/\∀ r∈m.runs,r<256^8:=by
 obtain⟨g,f,b,d⟩:=h;have c:=b m.log (by simp[Man.numbers]);refine⟨by omega,by omega,by omega,?_,fun r hr=>?_⟩
 ·by_cases hb:m.base=0
  ·omega
  ·have:=b m.base (by simp[Man.numbers,Man.settled,hb])
   omega
 ·have:=b r (by unfold Man.numbers Man.settled;split<;>simp[hr])
  omega
theorem ur{m:Man}(h:m.Good)(p:m.runs.length<65536):Ak m.bytes=some m:=by
 obtain⟨H,G,z,y,l⟩:=h.bounds;obtain⟨next,last,log,base,runs⟩:=m;simp only at H G z y l p;have k:(big next 8).length=8:=js _ _;have j:(big last 8).length=8:=js _ _;have i:(big log 8).length=8:=js _ _;have g:(big base 8).length=8:=js _ _;have f:(big runs.length 2).length=2:=js _ _
 have J:(runs.flatMap fun r=>big r 8).length=8*runs.length:=by
  clear l p h f
  induction runs with
  | nil=>rfl
  | cons x r ih=>simp[ZV,js,ih];omega
 generalize hA:big next 8=A at *
 generalize hB:big last 8=B at *
 generalize hC:big log 8=C at *
 generalize hD:big base 8=D at *
 generalize hE:big runs.length 2=E at *
 generalize hF:(runs.flatMap fun r=>big r 8)=F at *
 have L:Man.bytes ⟨next,last,log,base,runs⟩=frame (A++(B++(C++(D++(E++F))))):=by
  simp[Man.bytes,ff,hA,hB,hC,hD,hE,hF]
 have b:(A++(B++(C++(D++(E++F))))).length=34+8*runs.length:=by simp[k,j,i,g,f,J];omega
 have c:∀(X Y:List UInt8) n,X.length=n->(X++Y).take n=X:=fun X Y n e=>by subst e;simp
 have d:∀(X Y:List UInt8) n,X.length=n->(X++Y).drop n=Y:=fun X Y n e=>by subst e;simp
 have v:=d A (B++(C++(D++(E++F)))) 8 k;have u:(A++(B++(C++(D++(E++F))))).drop 16=C++(D++(E++F)):=by rw[show 16=8+8 from rfl,<-zU,v,d B _ 8 j]
 have t:(A++(B++(C++(D++(E++F))))).drop 24=D++(E++F):=by rw[show 24=16+8 from rfl,<-zU,u,d C _ 8 i]
 have s:(A++(B++(C++(D++(E++F))))).drop 32=E++F:=by rw[show 32=24+8 from rfl,<-zU,t,d D _ 8 g]
 have M:(A++(B++(C++(D++(E++F))))).drop 34=F:=by rw[show 34=32+2 from rfl,<-zU,s,d E _ 2 f]
 have q:=Xh (A++(B++(C++(D++(E++F))))) [] (by rw[b];omega);rw[ZC] at q;have o:number E=runs.length:=by rw[<-hE];exact Js _ _ (by omega)
 unfold Ak;rw[L,q];simp only[v,u,t,s,M,c A _ 8 k,c B _ 8 j,c C _ 8 i,c D _ 8 g,c E _ 2 f,o,b];rw[if_pos ⟨trivial,by omega,trivial⟩]
 have I:zt runs.length F=runs:=by
  have:=Lh l [];rw[ZC,hF] at this;exact this
 rw[I,<-hA,<-hB,<-hC,<-hD,Js _ _ H,Js _ _ G,Js _ _ z,Js _ _ y,if_pos h]
theorem tt(a b:List UInt8):a<b\/a=b\/b<a:=Std.lt_trichotomy a b
theorem ix(h:a<b):a≠b:=fun e=>by rw[e] at h;exact ZY _ h
theorem Aw(h:a<b):¬b<a:=fun k=>ZY _ (XH h k)
theorem q7(x:Ch)(l:List Ch)(k:List UInt8):x8 (x::l) k=if x.key=k then some x else x8 l k:=by
 unfold x8;by_cases h:x.key=k<;>simp[h]
theorem jbx{l:List Ch}{c:Ch}(h:x8 l k=some c):c.key=k:=by
 have:=List.find?_some h;simpa using this
theorem tu{l:List Ch}{c:Ch}(h:x8 l k=some c):c∈l:=List.mem_of_find?_eq_some h
theorem Z7{l:List Ch}(h:∀ c∈l,c.key≠k):x8 l k=none:=List.find?_eq_none.2 (fun c hc=>by simpa using h c hc)
theorem dd{l:List Ch}(h:jw l){c:Ch}(b:c∈l):x8 l c.key=some c:=by
 induction l with
 | nil=>cases b
 | cons x r ih =>
  unfold jw at h;rw[XD] at h;rw[q7];rcases zF.1 b with rfl|b
  ·simp
  ·rw[if_neg (ix (h.1 c b)),ih h.2 b]
theorem ma{a b:List Ch}(f:jw a)(d:jw b)(h:∀ k,x8 a k=x8 b k):a=b:=by
 induction a generalizing b with
 | nil =>
  cases b with
  | nil=>rfl
  | cons y s =>
   have:=h y.key;rw[q7,if_pos rfl] at this;cases this
 | cons x r ih =>
  cases b with
  | nil =>
   have:=h x.key;rw[q7,if_pos rfl] at this;cases this
  | cons y s =>
   have o:=f;have n:=d;unfold jw at f d;rw[XD] at f d
   have m:¬x.key<y.key:=fun hlt=>by
    have:=h x.key;rw[q7,if_pos rfl,q7,if_neg (fun e=>ix hlt e.symm),Z7 (l:=s) (k:=x.key) (fun c hc e=>Aw hlt (by have:=d.1 c hc;rwa [e] at this))] at this;cases this
   have j:¬y.key<x.key:=fun hlt=>by
    have:=h y.key;rw[q7,if_neg (fun e=>ix hlt e.symm),Z7 (l:=r) (k:=y.key) (fun c hc e=>Aw hlt (by have:=f.1 c hc;rwa [e] at this)),q7,if_pos rfl] at this;cases this
   have i:x.key=y.key:=(tt x.key y.key).elim (fun h=>(m h).elim) (fun h=>h.elim id (fun h=>(j h).elim))
   have g:x=y:=by
    have:=h x.key;rw[q7,if_pos rfl,q7,if_pos i.symm] at this;exact Option.some.inj this
   subst g;refine congrArg _ (ih f.2 d.2 (fun k=>?_));by_cases hk:x.key=k
   ·rw[Z7 (fun c hc e=>ix (f.1 c hc) (hk.trans e.symm)),Z7 (fun c hc e=>ix (d.1 c hc) (hk.trans e.symm))]
   ·have:=h k
    rw[q7,if_neg hk,q7,if_neg hk] at this;exact this
theorem tw{l:List Ch}(h:jw l)(c:Ch)(k:List UInt8):x8 (ins c l) k=if c.key=k then some c else x8 l k:=by
 induction l with
 | nil=>simp[ins,q7]
 | cons x r ih =>
  unfold jw at h;rw[XD] at h;unfold ins
  split
  ·rw[q7]
  ·split
   ·rename_i _ he
    rw[q7];by_cases hk:c.key=k
    ·rw[if_pos hk,if_pos hk]
    ·rw[if_neg hk,if_neg hk,q7,if_neg (fun e=>hk (he.symm.trans e))]
   ·rename_i hn he
    rw[q7,ih h.2,q7];by_cases hk:c.key=k
    ·rw[if_pos hk,if_pos hk,if_neg (fun e=>he (e.trans hk.symm))]
    ·rw[if_neg hk,if_neg hk]
theorem fh{l more:List Ch}(h:jw l)(b:jw more)(k:List UInt8):x8 (over l more) k=(x8 more k).or (x8 l k):=by
 induction more generalizing l with
 | nil=>simp[over,x8]
 | cons x r ih =>
  unfold jw at b;rw[XD] at b;have e:over l (x::r)=over (ins x l) r:=by simp[over,X3 h]
  rw[e,ih (Jq h) b.2,tw h,q7];by_cases hk:x.key=k
  ·rw[if_pos hk,if_pos hk,Z7 (fun c hc e=>ix (b.1 c hc) (hk.trans e.symm))]
   rfl
  ·rw[if_neg hk,if_neg hk]
def merged(ls:List (List Ch)):List Ch:=ls.foldr (fun l acc=>over acc l) []
theorem Xv(l:List Ch)(ls:List (List Ch)):merged (l::ls)=over (merged ls) l:=rfl
theorem yr(ls:List (List Ch)):jw (merged ls):=by
 induction ls with
 | nil=>exact List.Pairwise.nil
 | cons l ls ih=>exact ym ih
def mr(ls:List (List Ch))(k:List UInt8):Option Ch:=ls.foldr (fun l acc=>(x8 l k).or acc) none
theorem X5(l:List Ch)(ls:List (List Ch))(k:List UInt8):mr (l::ls) k=(x8 l k).or (mr ls k):=rfl
theorem Zi{ls:List (List Ch)}(h:∀ l∈ls,jw l)(k:List UInt8):x8 (merged ls) k=mr ls k:=by
 induction ls with
 | nil=>rfl
 | cons l ls ih =>
  rw[Xv,fh (yr ls) (h l zR),X5,ih (fun x hx=>h x (zQ _ hx))]
theorem U9{l:List Ch}(h:jw l):merged [l]=l:=by
 rw[Xv];exact jdg h
theorem Xj{l:List Ch}(h:jw l)(p:Ch->Bool):jw (l.filter p):=h.sublist ZF
theorem mo{l:List Ch}(q:List UInt8->Bool)(k:List UInt8):x8 (l.filter (fun c=>q c.key)) k=if q k then x8 l k else none:=by
 induction l with
 | nil=>simp[x8]
 | cons x r ih =>
  by_cases hx:q x.key=true
  ·rw[XW (by exact hx),q7,q7,ih]
   by_cases hk:x.key=k
   ·rw[if_pos hk,if_pos hk,<-hk,hx];rfl
   ·rw[if_neg hk,if_neg hk]
  ·rw[XV (by exact hx),ih,q7]
   by_cases hk:x.key=k
   ·rw[if_pos hk,<-hk];simp at hx;simp[hx]
   ·rw[if_neg hk]
theorem ux{ls:List (List Ch)}(h:∀ l∈ls,jw l)(q:List UInt8->Bool):merged (ls.map (fun l=>l.filter (fun c=>q c.key)))=(merged ls).filter (fun c=>q c.key):=by
 refine ma (yr _) (Xj (yr _) _) (fun k=>?_);rw[mo q,Zi h,Zi (fun l hl=>by obtain⟨x,b,rfl⟩:=zS.1 hl;exact Xj (h x b) _)]
 induction ls with
 | nil=>simp[mr]
 | cons l ls ih =>
  rw[zP,X5,X5,ih (fun x b=>h x (zQ _ b)),mo q];cases q k<;>simp
structure Source where
 entries:List Ch
 age:Nat
def Source.top(s:Source):List UInt8:=(s.entries.head?.map Ch.key).getD []
def Source.less(a b:Source):Bool:=decide (a.top<b.top)||(decide (a.top=b.top)&&decide (a.age<b.age))
theorem Source.Cx(a:Source):a.less a=false:=by simp[Source.less,ZY]
theorem Source.Vd{a b c:Source}(h:a.less b=true)(k:b.less c=true):a.less c=true:=by
 simp[Source.less] at h k ⊢;rcases h with h|⟨h,d⟩
 ·rcases k with k|⟨k,_⟩
  ·exact .inl (XH h k)
  ·exact .inl (k▸h)
 ·rcases k with k|⟨k,k'⟩
  ·exact .inl (h▸k)
  ·exact .inr ⟨h.trans k,by omega⟩
def Source.le(a b:Source):Prop:=b.less a=false
theorem Source.le_refl(a:Source):a.le a:=a.Cx
theorem Source.vu{a b:Source}(h:a.less b=true):a.le b:=by
 unfold Source.le
 cases e:b.less a with
 | false=>rfl
 | true=>have:=Source.Vd h e;rw[Source.Cx] at this;cases this
theorem Source.le_trans{a b c:Source}(h:a.le b)(k:b.le c):a.le c:=by
 unfold Source.le at *
 cases e:c.less a with
 | false=>rfl
 | true =>
  simp[Source.less] at h k e;rcases e with e|⟨e,g⟩
  ·rcases tt a.top b.top with q|q|q
   ·exact(k.1 (XH e q)).elim
   ·exact(k.1 (q▸e)).elim
   ·exact(h.1 q).elim
  ·rcases tt a.top b.top with q|q|q
   ·exact(k.1 (e▸q)).elim
   ·have f:=h.2 q.symm
    have d:=k.2 (e.trans q);omega
   ·exact(h.1 q).elim
def Ql(l:List Source)(n:Nat):Prop:=∀(j:Nat) (a b:Source),0<j->j<n->l[(j-1)/2]?=some a->l[j]?=some b->a.le b
structure lq(l:List Source)(j:Nat):Prop where
 other:∀(k:Nat) (a b:Source),0<k->k≠j->l[(k-1)/2]?=some a->l[k]?=some b->a.le b
 below:∀(k:Nat) (a b:Source),0<k->0<j->(k-1)/2=j->l[(j-1)/2]?=some a->l[k]?=some b->a.le b
theorem E0{l:List Source}{a b:Source}(d:i<l.length)(c:j<l.length)(f:i≠j)(k:Nat) :
 ((l.set i b).set j a)[k]?=if k=j then some a else if k=i then some b else l[k]?:=by
 rw[List.getElem?_set];by_cases h1:j=k
 ·rw[if_pos h1,if_pos (by simpa using c),if_pos h1.symm]
 ·rw[if_neg h1,if_neg (fun e:k=j=>h1 e.symm),List.getElem?_set]
  by_cases h2:i=k
  ·rw[if_pos h2,if_pos d,if_pos h2.symm]
  ·rw[if_neg h2,if_neg (fun e:k=i=>h2 e.symm)]
theorem bc{l:List Source}{a:Source}(h:l[i]?=some a):i<l.length:=(zO.1 h).1
theorem lq.start{l:List Source}{x:Source}(h:Ql l l.length):lq (l++[x]) l.length:=by
 refine⟨fun k a b h0 hk ha hb=>?_,fun k a b h0 h1 hk ha hb=>?_⟩
 ·have c:=bc hb
  simp at c;rw[XS (by omega)] at ha hb;exact h k a b h0 (by omega) ha hb
 ·have c:=bc hb
  simp at c;omega
theorem lq.done{l:List Source}(h:lq l j)(f:j=0\/∃ a b,l[(j-1)/2]?=some a/\l[j]?=some b/\b.less a=false):Ql l l.length:=by
 intro k a b n o i g;by_cases e:k=j
 ·subst e
  rcases f with f|⟨x,y,d,c,m⟩
  ·omega
  ·rw[i] at d;cases d
   rw[g] at c;cases c;exact m
 ·exact h.other k a b n e i g
theorem lq.step{l:List Source}{a b:Source}(h:lq l j)(o:0<j)(d:l[(j-1)/2]?=some a)(p:l[j]?=some b)(n:b.less a=true):lq ((l.set ((j-1)/2) b).set j a) ((j-1)/2):=by
 have i:=bc d;have g:=bc p;have c:(j-1)/2≠j:=by omega
 have m:=Source.vu n;refine⟨fun k x y h0 hk hx hy=>?_,fun k x y h0 h1 hk hx hy=>?_⟩
 ·rw[E0 i g c] at hx hy
  by_cases e1:k=j
  ·subst e1
   rw[if_neg c,if_pos rfl] at hx;rw[if_pos rfl] at hy;cases hx;cases hy;exact m
  ·rw[if_neg e1,if_neg hk] at hy
   by_cases e2:(k-1)/2=j
   ·rw[if_pos e2] at hx
    cases hx;exact h.below k _ y h0 o e2 d hy
   ·rw[if_neg e2] at hx
    by_cases e3:(k-1)/2=(j-1)/2
    ·rw[if_pos e3] at hx
     cases hx;exact Source.le_trans m (h.other k a y h0 e1 (e3▸d) hy)
    ·rw[if_neg e3] at hx
     exact h.other k x y h0 e1 hx hy
 ·rw[E0 i g c] at hx hy
  rw[if_neg (by omega),if_neg (by omega)] at hx;have f:=h.other _ _ _ h1 c hx d;by_cases e1:k=j
  ·rw[if_pos e1] at hy
   cases hy;exact f
  ·rw[if_neg e1,if_neg (by omega)] at hy
   exact Source.le_trans f (h.other k a y h0 e1 (hk▸d) hy)
structure Qx(l:List Source)(i n:Nat):Prop where
 other:∀(k:Nat) (a b:Source),0<k->k<n->(k-1)/2≠i->l[(k-1)/2]?=some a->l[k]?=some b->a.le b
 below:∀(k:Nat) (a b:Source),0<k->k<n->0<i->(k-1)/2=i->l[(i-1)/2]?=some a->l[k]?=some b->a.le b
theorem Qx.start{l:List Source}{x:Source}(h:Ql l n):Qx (l.set 0 x) 0 n:=by
 refine⟨fun k a b h0 hk hne ha hb=>?_,fun k a b h0 hk hi _ _ _=>by omega⟩;rw[xC (by omega)] at ha hb;exact h k a b h0 hk ha hb
theorem Qx.none{l:List Source}(h:Qx l i n)(j:n<=2*i+1):Ql l n:=by
 intro k a b g c f d;exact h.other k a b g c (by omega) f d
theorem Qx.done{l:List Source}{a b:Source}(h:Qx l i n)(s:j=2*i+1\/j=2*i+2)(r:j<n)(p:l[i]?=some a)(t:l[j]?=some b)(o:b.less a=false)(m:∀ k c,(k=2*i+1\/k=2*i+2)->k<n->l[k]?=some c->b.le c):Ql l n:=by
 intro k x y q g d f;by_cases e:(k-1)/2=i
 ·rw[e,p] at d
  cases d;exact Source.le_trans (b:=b) o (m k y (by omega) g f)
 ·exact h.other k x y q g e d f
theorem Qx.step{l:List Source}{a b:Source}(h:Qx l i n)(t:j=2*i+1\/j=2*i+2)(o:j<n)(s:l[i]?=some a)(m:l[j]?=some b)(r:b.less a=true)(q:∀ k c,(k=2*i+1\/k=2*i+2)->k<n->l[k]?=some c->b.le c):Qx ((l.set i b).set j a) j n:=by
 have g:=bc s;have f:=bc m;have d:i≠j:=by omega
 have p:=Source.vu r;refine⟨fun k x y h0 hk hkj hx hy=>?_,fun k x y h0 hk h1 hkj hx hy=>?_⟩
 ·rw[E0 g f d] at hx hy
  rw[if_neg hkj] at hx;by_cases e1:(k-1)/2=i
  ·rw[if_pos e1] at hx
   cases hx;by_cases e2:k=j
   ·rw[if_pos e2] at hy
    cases hy;exact p
   ·rw[if_neg e2,if_neg (by omega)] at hy
    exact q k y (by omega) hk hy
  ·rw[if_neg e1] at hx
   by_cases e2:k=j
   ·omega
   ·rw[if_neg e2] at hy
    by_cases e3:k=i
    ·rw[if_pos e3] at hy
     cases hy;subst e3;exact h.below j x b (by omega) o h0 (by omega) hx m
    ·rw[if_neg e3] at hy
     exact h.other k x y h0 hk e1 hx hy
 ·rw[E0 g f d] at hx hy
  rw[if_neg (by omega),if_pos (by omega)] at hx;cases hx;rw[if_neg (by omega),if_neg (by omega)] at hy;exact h.other k b y h0 hk (by omega) (hkj▸m) hy
theorem Ql.top{s:Source}{r:List Source}(h:Ql (s::r) (s::r).length):∀ t∈s::r,s.le t:=by
 have H:∀(n k:Nat) (t:Source),k<=n->(s::r)[k]?=some t->s.le t:=by
  intro n
  induction n with
  | zero=>intro k t c b;obtain rfl:k=0:=by omega
          cases b;exact Source.le_refl _
  | succ n ih =>
   intro k t c b;by_cases h0:k=0
   ·subst h0;cases b;exact Source.le_refl _
   ·have d:=bc b
    obtain⟨a,f⟩:∃ a,(s::r)[(k-1)/2]?=some a:=⟨_,xB (by omega)⟩;exact Source.le_trans (ih _ a (by omega) f) (h k a t (by omega) d f b)
 intro t b;obtain⟨k,c,e⟩:=List.getElem_of_mem b;exact H k k t (zJ _) (by rw[xB c,e])
structure sy(hs:List Source)(last:List UInt8):Prop where
 some:∀ s∈hs,s.entries≠[]
 rising:∀ s∈hs,jw s.entries
 jhg:hs.Pairwise (fun s t=>s.age≠t.age)
 keys:∀ s∈hs,∀ c∈s.entries,¬c.key<last
structure Tells(hs:List Source)(last:List UInt8)(L:List Ch):Prop where
 rising:jw L
 behind:∀ c∈L,last<c.key
 has:∀ k c,last<k->(x8 L k=Option.some c↔∃ s∈hs,x8 s.entries k=Option.some c/\∀ t∈hs,t.age<s.age->x8 t.entries k=none)
theorem sy.perm{b c:List Source}{last:List UInt8}(h:sy b last)(p:b.Perm c):sy c last :=
 ⟨fun s hs'=>h.some s (p.mem_iff.2 hs'),fun s hs'=>h.rising s (p.mem_iff.2 hs'),(p.pairwise_iff (fun e=>Ne.symm e)).1 h.jhg,fun s hs'=>h.keys s (p.mem_iff.2 hs')⟩
theorem Tells.perm{g i:List Source}{last:List UInt8}{L:List Ch}(h:Tells g last L)(p:g.Perm i):Tells i last L:=by
 refine⟨h.rising,h.behind,fun k c hk=>(h.has k c hk).trans ?_⟩;constructor
 ·rintro⟨s,b,f,d⟩;exact⟨s,p.mem_iff.1 b,f,fun t ht=>d t (p.mem_iff.2 ht)⟩
 ·rintro⟨s,b,f,d⟩;exact⟨s,p.mem_iff.2 b,f,fun t ht=>d t (p.mem_iff.1 ht)⟩
def taken(s:Source)(r:List Source):List Source:=if s.entries.tail=[] then r else⟨s.entries.tail,s.age⟩::r
theorem Aa{s:Source}{c:Ch}{q:List Ch}(h:s.entries=c::q):s.top=c.key:=by simp[Source.top,h]
theorem sy.next{s:Source}{r:List Source}{last:List UInt8}{c:Ch}{q:List Ch}(h:sy (s::r) last)(i:s.entries=c::q)(u:∀ t∈s::r,s.le t) :
 sy (taken s r) c.key/\sy (taken s r) last:=by
 have j:jw s.entries:=h.rising s zR;rw[i] at j;unfold jw at j;rw[XD] at j;have n:=h.jhg;rw[XD] at n
 have l:∀ t∈r,∀ x∈t.entries,¬x.key<c.key:=by
  intro t b x d k;have f:s.le t:=u t (zQ _ b);unfold Source.le Source.less at f;simp only[Bool.or_eq_false_iff,decide_eq_false_iff_not] at f;have m:jw t.entries:=h.rising t (zQ _ b)
  cases he:t.entries with
  | nil=>rw[he] at d;cases d
  | cons y z =>
   rw[Aa he,Aa i] at f;rw[he] at d m;unfold jw at m;rw[XD] at m;rcases zF.1 d with rfl|d
   ·exact f.1 k
   ·exact f.1 (XH (m.1 x d) k)
 have g:∀ K,(∀ t∈r,∀ x∈t.entries,¬x.key<K)->(∀ x∈q,¬x.key<K)->sy (taken s r) K:=by
  intro K o p;unfold taken
  split
  ·exact⟨fun t b=>h.some t (zQ _ b),fun t b=>h.rising t (zQ _ b),n.2,o⟩
  ·rename_i hne
   refine⟨fun t b=>?_,fun t b=>?_,XD.2 ⟨n.1,n.2⟩,fun t b=>?_⟩
   all_goals rcases zF.1 b with rfl|b
   ·exact hne
   ·exact h.some t (zQ _ b)
   ·rw[i];exact j.2
   ·exact h.rising t (zQ _ b)
   ·intro x d;rw[i] at d;exact p x d
   ·exact o t b
 refine⟨g _ l (fun x d=>Aw (j.1 x d)),g _ (fun t b=>h.keys t (zQ _ b)) (fun x d=>h.keys s zR x (by rw[i];exact zQ _ d))⟩
theorem Lx{s:Source}{r:List Source}{c:Ch}{q:List Ch}(j:s.entries=c::q)(m:c.key≠k)(x:Ch) :
 (∃ t∈taken s r,x8 t.entries k=some x/\∀ u∈taken s r,u.age<t.age->x8 u.entries k=none) ↔
 (∃ t∈s::r,x8 t.entries k=some x/\∀ u∈s::r,u.age<t.age->x8 u.entries k=none):=by
 have e:x8 s.entries k=x8 q k:=by rw[j,q7,if_neg m]
 unfold taken;rw[j,List.tail_cons];by_cases hq:q=[]
 ·rw[if_pos hq]
  have l:x8 s.entries k=none:=by rw[e,hq];rfl
  constructor
  ·rintro⟨t,f,g,i⟩
   refine⟨t,zQ _ f,g,fun u d b=>?_⟩;rcases zF.1 d with rfl|d
   ·exact l
   ·exact i u d b
  ·rintro⟨t,f,g,i⟩
   rcases zF.1 f with rfl|f
   ·rw[l] at g;cases g
   ·exact⟨t,f,g,fun u d=>i u (zQ _ d)⟩
 ·rw[if_neg hq]
  constructor
  ·rintro⟨t,f,g,i⟩
   have H:∀ a,(∀ u∈(⟨q,s.age⟩:Source)::r,u.age<a->x8 u.entries k=none)->∀ u∈s::r,u.age<a->x8 u.entries k=none:=by
    intro a h u d b;rcases zF.1 d with rfl|d
    ·rw[e];exact h ⟨q,u.age⟩ zR b
    ·exact h u (zQ _ d) b
   rcases zF.1 f with rfl|f
   ·exact⟨s,zR,e.trans g,H _ i⟩
   ·exact⟨t,zQ _ f,g,H _ i⟩
  ·rintro⟨t,f,g,i⟩
   have H:∀ a,(∀ u∈s::r,u.age<a->x8 u.entries k=none)->∀ u∈(⟨q,s.age⟩:Source)::r,u.age<a->x8 u.entries k=none:=by
    intro a h u d b;rcases zF.1 d with rfl|d
    ·exact e.symm.trans (h s zR b)
    ·exact h u (zQ _ d) b
   rcases zF.1 f with rfl|f
   ·exact⟨⟨q,t.age⟩,zR,e.symm.trans g,H _ i⟩
   ·exact⟨t,zQ _ f,g,H _ i⟩
theorem Tells.again{s:Source}{r:List Source}{last:List UInt8}{c:Ch}{q L:List Ch}(h:Tells (s::r) last L)(b:s.entries=c::q)(d:c.key=last):Tells (taken s r) last L:=by
 refine⟨h.rising,h.behind,fun k x hk=>?_⟩;rw[h.has k x hk,Lx b (fun e=>ix hk (d.symm.trans e))]
theorem Tells.next{s:Source}{r:List Source}{last:List UInt8}{c:Ch}{q L:List Ch}(F:sy (s::r) last)(h:Tells (s::r) last L)(m:s.entries=c::q)(B:∀ t∈s::r,s.le t)(C:c.key≠last) :
 last<c.key/\∃ M,L=c::M/\Tells (taken s r) c.key M:=by
 have n:last<c.key:=by
  rcases tt last c.key with d|d|d
  ·exact d
  ·exact(C d.symm).elim
  ·exact(F.keys s zR c (by rw[m];exact zR) d).elim
 have b:x8 L c.key=some c:=by
  rw[h.has _ _ n];refine⟨s,zR,by rw[m,q7,if_pos rfl],fun t v hage=>?_⟩
  cases he:x8 t.entries c.key with
  | none=>rfl
  | some x =>
   have l:=tu he;have o:=jbx he;have g:=B t v;have j:=F.rising t v
   cases he2:t.entries with
   | nil=>rw[he2] at l;cases l
   | cons y z =>
    unfold Source.le Source.less at g;simp only[Bool.or_eq_false_iff,decide_eq_false_iff_not,Bool.and_eq_false_iff] at g;rw[Aa he2,Aa m] at g;rw[he2] at l j;unfold jw at j;rw[XD] at j;rcases zF.1 l with rfl|l
    ·rcases g.2 with d|d
     ·exact(d o).elim
     ·exact(d hage).elim
    ·exact(g.1 (o▸j.1 x l)).elim
 have Fn:=(F.next m B).1
 have u:∀ x∈L,¬x.key<c.key:=by
  intro x l i;obtain⟨t,v,d,_⟩:=(h.has x.key x (h.behind x l)).1 (dd h.rising l);have f:=tu d;rcases zF.1 v with rfl|p
  ·rw[m] at f
   have A:jw t.entries:=F.rising t zR;rw[m] at A;unfold jw at A;rw[XD] at A;rcases zF.1 f with rfl|f
   ·exact ZY _ i
   ·exact Aw (A.1 x f) i
  ·have:t∈taken s r:=by
    unfold taken
    split
    ·exact p
    ·exact zQ _ p
   exact Fn.keys t this x f i
 refine⟨n,?_⟩
 cases L with
 | nil=>cases b
 | cons y M =>
  have j:=h.rising;unfold jw at j;rw[XD] at j
  have D:y=c:=by
   rw[q7] at b
   split at b
   ·exact Option.some.inj b
   ·exact(u y zR (by have:=j.1 c (tu b);exact this)).elim
  subst D;refine⟨M,rfl,j.2,j.1,fun k x o=>?_⟩;rw[Lx m (ix o),<-h.has k x (XH n o),q7,if_neg (ix o)]
theorem Tells.nil{last:List UInt8}{L:List Ch}(h:Tells [] last L):L=[]:=by
 cases L with
 | nil=>rfl
 | cons x r =>
  obtain⟨s,b,_⟩:=(h.has x.key x (h.behind x zR)).1 (dd h.rising zR);cases b
def qx:Nat->List (List Ch)->List Source
 | _,[]=>[]
 | n,l::ls=>if l=[] then qx (n+1) ls else⟨l,n⟩::qx (n+1) ls
theorem bq{ls:List (List Ch)}:∀ s∈qx n ls,n<=s.age:=by
 induction ls generalizing n with
 | nil=>intro s b;cases b
 | cons l ls ih =>
  intro s b;unfold qx at b
  split at b
  ·have:=ih s b;omega
  ·rcases zF.1 b with rfl|b
   ·exact zJ _
   ·have:=ih s b;omega
theorem M9{ls:List (List Ch)}(h:∀ l∈ls,jw l):sy (qx n ls) []:=by
 induction ls generalizing n with
 | nil=>exact⟨fun s b=>(by cases b),fun s b=>(by cases b),List.Pairwise.nil,fun s b=>(by cases b)⟩
 | cons l ls ih =>
  have I:=ih (n:=n+1) (fun x hx=>h x (zQ _ hx));unfold qx
  split
  ·exact I
  ·rename_i hne
   refine⟨fun s b=>?_,fun s b=>?_,XD.2 ⟨fun t ht=>?_,I.jhg⟩,fun s b c hc hlt=>List.not_lt_nil _ hlt⟩
   ·rcases zF.1 b with rfl|b
    ·exact hne
    ·exact I.some s b
   ·rcases zF.1 b with rfl|b
    ·exact h l zR
    ·exact I.rising s b
   ·have:=bq t ht
    show n≠t.age;omega
theorem uk{ls:List (List Ch)}(k:List UInt8)(c:Ch):mr ls k=some c↔∃ s∈qx n ls,x8 s.entries k=some c/\∀ t∈qx n ls,t.age<s.age->x8 t.entries k=none:=by
 induction ls generalizing n with
 | nil=>simp[mr,qx]
 | cons l ls ih =>
  rw[X5];unfold qx
  split
  ·rename_i hl
   rw[hl];show((none:Option Ch).or _)=_↔_;rw[Option.none_or];exact ih
  ·cases hg:x8 l k with
   | some x =>
    rw[Option.some_or];constructor
    ·intro e
     cases e;refine⟨⟨l,n⟩,zR,hg,fun t b hlt=>?_⟩;rcases zF.1 b with rfl|b
     ·exact(XZ _ hlt).elim
     ·have:=bq t b
      exact absurd hlt (by show ¬t.age<n;omega)
    ·rintro⟨s,d,f,g⟩
     rcases zF.1 d with rfl|d
     ·exact hg.symm.trans f
     ·have:=bq s d
      have i:=g ⟨l,n⟩ zR (by show n<s.age;omega);rw[hg] at i;cases i
   | none =>
    rw[Option.none_or,ih (n:=n+1)];constructor
    ·rintro⟨s,d,f,g⟩
     refine⟨s,zQ _ d,f,fun t b hlt=>?_⟩;rcases zF.1 b with rfl|b
     ·exact hg
     ·exact g t b hlt
    ·rintro⟨s,d,f,g⟩
     rcases zF.1 d with rfl|d
     ·rw[hg] at f;cases f
     ·exact⟨s,d,f,fun t b=>g t (zQ _ b)⟩
theorem M8{ls:List (List Ch)}(h:∀ l∈ls,jw l)(j:∀ l∈ls,∀ c∈l,c.key≠[]):Tells (qx n ls) [] (merged ls):=by
 refine⟨yr ls,fun c hc=>?_,fun k c _=>?_⟩
 ·have o:=dd (yr ls) hc
  rw[Zi h,uk (n:=n)] at o;obtain⟨s,d,m,f⟩:=o;clear f
  have:∃ l∈ls,s.entries=l:=by
   clear m h j hc
   induction ls generalizing n with
   | nil=>cases d
   | cons l ls ih =>
    unfold qx at d
    split at d
    ·obtain⟨x,g,e⟩:=ih d;exact⟨x,zQ _ g,e⟩
    ·rcases zF.1 d with rfl|d
     ·exact⟨l,zR,rfl⟩
     ·obtain⟨x,g,e⟩:=ih d;exact⟨x,zQ _ g,e⟩
  obtain⟨l,p,e⟩:=this;have i:=j l p c (e▸tu m)
  cases hkc:c.key with
  | nil=>exact(i hkc).elim
  | cons a b=>exact List.nil_lt_cons _ _
 ·rw[Zi h]
  exact uk k c
def chunks:List Ch->List (List Ch)
 | []=>[]
 | a::b::c::d::r=>[a,b,c,d]::chunks r
 | l=>[l]
def j4(b:List Ch):List UInt8:=frame (big b.length 1++b.flatMap entry)
def Jo(b:List Ch):List UInt8:=(b.head?.map Ch.key).getD []
def x9(p:Nat×List UInt8):List UInt8:=big p.1 4++text p.2
def j2:Nat->List (List Ch)->List (Nat×List UInt8)
 | _,[]=>[]
 | n,b::r=>(n,Jo b)::j2 (n+(j4 b).length) r
def zz(bl:List (List Ch)):List UInt8:=bl.flatMap j4++frame (big bl.length 2++(j2 0 bl).flatMap x9)++big (bl.flatMap j4).length 4
def j7(l:List Ch):List UInt8:=zz (chunks l)
theorem Xz(l:List Ch):(chunks l).flatten=l:=by
 induction l using chunks.induct with
 | case1=>rfl
 | case2 a b c d r ih=>rw[chunks];simp[ih]
 | case3 l h1 h2=>
  rw[chunks]
  ·simp
  ·exact h1
  ·exact h2
theorem V6{l:List Ch}:chunks l=[]↔l=[]:=by
 constructor
 ·intro h
  have:=Xz l;rw[h] at this;exact this.symm
 ·intro h;rw[h];rfl
theorem I6{l b:List Ch}(h:b∈chunks l):1<=b.length/\b.length<=4:=by
 induction l using chunks.induct with
 | case1=>cases h
 | case2 a b' c d r ih =>
  rw[chunks] at h;rcases zF.1 h with rfl|h
  ·simp
  ·exact ih h
 | case3 l h1 h2 =>
  rw[chunks] at h
  ·rw[zZ] at h
   subst h
   match b,h1,h2 with
   | [],h1,_=>exact(h1 rfl).elim
   | [a],_,_=>simp
   | [a,b],_,_=>simp
   | [a,b,c],_,_=>simp
   | a::b::c::d::r,_,h2=>exact(h2 a b c d r rfl).elim
  ·exact h1
  ·exact h2
theorem I5{l b:List Ch}(h:b∈chunks l):∀ c∈b,c∈l:=by
 intro c d;rw[<-Xz l];exact List.mem_flatten.2 ⟨b,h,d⟩
theorem Da{l:List Ch}(h:l≠[]):chunks l=l.take 4::chunks (l.drop 4):=by
 match l,h with
 | [],h=>exact(h rfl).elim
 | [a],_=>rfl
 | [a,b],_=>rfl
 | [a,b,c],_=>rfl
 | a::b::c::d::r,_=>rw[chunks];simp
theorem ar(l:List Ch):(chunks l).length=(l.length+3)/4:=by
 induction l using chunks.induct with
 | case1=>rfl
 | case2 a b c d r ih=>rw[chunks];simp[ih];omega
 | case3 l h1 h2 =>
  match l,h1,h2 with
  | [],h1,_=>exact(h1 rfl).elim
  | [a],_,_=>simp[chunks]
  | [a,b],_,_=>simp[chunks]
  | [a,b,c],_,_=>simp[chunks]
  | a::b::c::d::r,_,h2=>exact(h2 a b c d r rfl).elim
def dj(footer:Nat)(l:List UInt8):Option ((Nat×List UInt8)×List UInt8) :=
 if 4<=l.length/\number (l.take 4)<=footer then
  match ya (l.drop 4)with
  | some (t,q)=>some ((number (l.take 4),t),q)
  | none=>none
 else none
def Qg(footer:Nat):Nat->List UInt8->Option (List (Nat×List UInt8)×List UInt8)
 | 0,l=>some ([],l)
 | n+1,l =>
  match dj footer l with
  | none=>none
  | some (p,r) =>
   match Qg footer n r with
   | none=>none
   | some (ps,q)=>some (p::ps,q)
def rr(ps:List (Nat×List UInt8)):Bool:=decide ((ps.head?.map Prod.fst)=some 0)&&decide (ps.Pairwise (fun a b=>a.1<=b.1))
def eo(footer:Nat)(l:List UInt8):Option (List (Nat×List UInt8)) :=
 if 2<=l.length/\number (l.take 2)≠0 then
  match Qg footer (number (l.take 2)) (l.drop 2)with
  | some (ps,[])=>if rr ps then some ps else none
  | _=>none
 else none
def E9(b:List UInt8):Option (Nat×List (Nat×List UInt8)) :=
 if 4<=b.length/\number (b.drop (b.length-4))<=b.length-4 then
  match xh ((b.take (b.length-4)).drop (number (b.drop (b.length-4))))with
  | some (h,[]) =>
   match eo (number (b.drop (b.length-4))) h with
   | some ps=>some (number (b.drop (b.length-4)),ps)
   | none=>none
  | _=>none
 else none
def Xs(footer:Nat)(ps:List (Nat×List UInt8))(i:Nat):Nat:=((ps[i+1]?).map Prod.fst).getD footer
def Be(ps:List (Nat×List UInt8))(i:Nat):Nat:=((ps[i]?).map Prod.fst).getD 0
def keyOf(ps:List (Nat×List UInt8))(i:Nat):List UInt8:=((ps[i]?).map Prod.snd).getD []
def Av(b:List Ch):List UInt8:=(b.getLast?.map Ch.key).getD []
def fits(ps:List (Nat×List UInt8))(i:Nat)(es:List Ch):Bool :=
 decide (Jo es=keyOf ps i)&&decide (es.Pairwise (fun a b=>a.key<b.key))&&(decide (i+1=ps.length)||(decide (es.length=4)&&decide (Av es<keyOf ps (i+1))))
def Fh(b:List UInt8)(footer:Nat)(ps:List (Nat×List UInt8))(i:Nat):Option (List Ch) :=
 match xh ((b.take (Xs footer ps i)).drop (Be ps i))with
 | some (h,[]) =>
  match Jy 4 h with
  | some es=>if fits ps i es then some es else none
  | none=>none
 | _=>none
theorem xq(n:Nat)(c:List (List Ch)):(j2 n c).length=c.length:=by
 induction c generalizing n with
 | nil=>rfl
 | cons b r ih=>simp[j2,ih]
theorem Jd(n:Nat)(c:List (List Ch))(i:Nat):(j2 n c)[i]?=(c[i]?).map (fun b=>(n+((c.take i).flatMap j4).length,Jo b)):=by
 induction c generalizing n i with
 | nil=>simp[j2]
 | cons b r ih =>
  cases i with
  | zero=>simp[j2]
  | succ i =>
   rw[j2,xG,ih,xG,List.take_succ_cons,ZV,zW]
   cases r[i]? with
   | none=>rfl
   | some x=>simp only[Option.map_some];rw[XO]
theorem mh(n:Nat)(b:List (List Ch)):∀ p∈j2 n b,n<=p.1/\p.1<=n+(b.flatMap j4).length:=by
 intro p d;obtain⟨i,c,e⟩:=List.getElem_of_mem d;have h:=Jd n b i;rw[xB c,e] at h;rw[xq] at c;rw[xB c] at h;cases h
 have f:((b.take i).flatMap j4).length<=(b.flatMap j4).length:=by
  conv=>rhs;rw[<-xQ i b,XT,zW]
  omega
 show n<=n+_/\n+_<=n+_;omega
theorem Gz(n:Nat)(c:List (List Ch)):(j2 n c).Pairwise (fun a b=>a.1<=b.1):=by
 induction c generalizing n with
 | nil=>exact List.Pairwise.nil
 | cons b r ih =>
  refine XD.2 ⟨fun p hp=>?_,ih _⟩;have:=(mh _ _ p hp).1;show n<=p.1;omega
theorem Fx(f:p.1<=F)(d:p.1<256^4)(c:p.2.length<256)(q:List UInt8):dj F (x9 p++q)=some (p,q):=by
 have b:(big p.1 4).length=4:=js _ _
 have j:(x9 p++q).take 4=big p.1 4:=by
  unfold x9;rw[XL,xE (by omega),xF (by omega)]
 have i:(x9 p++q).drop 4=text p.2++q:=by
  unfold x9;rw[XL,XY (by omega),XR (by omega),xL]
 have g:4<=(x9 p++q).length:=by unfold x9;simp[b]
 unfold dj;rw[j,i,Js _ _ d,if_pos ⟨g,f⟩,aa c]
theorem Dh{ps:List (Nat×List UInt8)}(h:∀ p∈ps,p.1<=F/\p.1<256^4/\p.2.length<256)(q:List UInt8):Qg F ps.length (ps.flatMap x9++q)=some (ps,q):=by
 induction ps with
 | nil=>simp[Qg]
 | cons p r ih =>
  obtain⟨d,c,b⟩:=h p zR;rw[zH,Qg,ZV,XL,Fx d c b];simp only[ih (fun x hx=>h x (zQ _ hx))]
structure Laid(bl:List (List Ch)):Prop where
 ne:bl≠[]
 len:∀ b∈bl,1<=b.length/\b.length<=4
 full:∀(i:Nat) (b:List Ch),i+1<bl.length->bl[i]?=some b->b.length=4
 ok:∀ b∈bl,∀ c∈b,allowed c=true
 rising:jw bl.flatten
 small:(bl.flatMap j4).length<256^4/\bl.length<65536
theorem A0{b:List Ch}(h:∀ c∈b,allowed c=true):(Jo b).length<256:=by
 cases b with
 | nil=>simp[Jo]
 | cons c r =>
  have:=(Jk c).1 (h c zR);show c.key.length<256;omega
theorem Laid.places{c:List (List Ch)}(h:Laid c):eo (c.flatMap j4).length (big c.length 2++(j2 0 c).flatMap x9)=some (j2 0 c):=by
 have j:(big c.length 2).length=2:=js _ _
 have n:(big c.length 2++(j2 0 c).flatMap x9).take 2=big c.length 2:=by
  rw[xE (by omega),xF (by omega)]
 have m:(big c.length 2++(j2 0 c).flatMap x9).drop 2=(j2 0 c).flatMap x9:=by
  rw[XY (by omega),XR (by omega),xL]
 have g:c.length≠0:=fun e=>h.ne (zT e)
 have l:Qg (c.flatMap j4).length c.length ((j2 0 c).flatMap x9)=some (j2 0 c,[]):=by
  have:=Dh (F:=(c.flatMap j4).length) (ps:=j2 0 c) (fun p hp=>?_) []
  ·rwa [ZC,xq] at this
  ·have q:=(mh 0 c p hp).2
   have o:=h.small.1;refine⟨by omega,by omega,?_⟩;obtain⟨i,d,e⟩:=List.getElem_of_mem hp;have f:=Jd 0 c i;rw[xB d,e] at f;rw[xq] at d;rw[xB d] at f;cases f;exact A0 (h.ok _ (xV d))
 have k:rr (j2 0 c)=true:=by
  unfold rr;rw[ZU];refine⟨?_,by simpa using Gz 0 c⟩
  cases c with
  | nil=>exact(h.ne rfl).elim
  | cons b r=>simp[j2]
 unfold eo;rw[n,m,Js _ _ h.small.2,if_pos ⟨by simp[j],g⟩,l];simp only[k,if_true]
theorem Am:(x9 p).length=5+p.2.length:=by simp[x9,text,js];omega
theorem Oe{b:List (List Ch)}(h:Laid b):(big b.length 2++(j2 0 b).flatMap x9).length<256^4:=by
 have H:∀(ps:List (Nat×List UInt8)),(∀ p∈ps,p.2.length<256)->(ps.flatMap x9).length<=261*ps.length:=by
  intro ps
  induction ps with
  | nil=>simp
  | cons p r ih =>
   intro c;have g:=ih (fun x hx=>c x (zQ _ hx));have j:=c p zR;rw[ZV,zW,Am,zH];omega
 have g:=H (j2 0 b) (fun p c=>by
  obtain⟨i,d,e⟩:=List.getElem_of_mem c
  have f:=Jd 0 b i
  rw[xB d,e] at f
  rw[xq] at d
  rw[xB d] at f
  cases f
  exact A0 (h.ok _ (xV d)))
 rw[xq] at g;have j:=h.small.2;rw[zW,js];omega
theorem Laid.read{b:List (List Ch)}(h:Laid b):E9 (zz b)=some ((b.flatMap j4).length,j2 0 b):=by
 generalize hB:b.flatMap j4=B;generalize hf:frame (big b.length 2++(j2 0 b).flatMap x9)=f;have c:zz b=B++f++big B.length 4:=by unfold zz;rw[hB,hf]
 have j:(big B.length 4).length=4:=js _ _;have g:(zz b).length=B.length+f.length+4:=by rw[c];simp[j];omega
 have d:=h.small.1;rw[hB] at d
 have m:(zz b).drop ((zz b).length-4)=big B.length 4:=by
  rw[g,c,show B.length+f.length+4-4=(B++f).length by simp,List.drop_left]
 have l:(zz b).take ((zz b).length-4)=B++f:=by
  rw[g,c,show B.length+f.length+4-4=(B++f).length by simp,XK]
 have k:xh f=some (big b.length 2++(j2 0 b).flatMap x9,[]):=by
  have:=Xh (big b.length 2++(j2 0 b).flatMap x9) [] (Oe h);rwa [ZC,hf] at this
 have i:=h.places;rw[hB] at i;unfold E9;rw[m,l,Js _ _ d,if_pos ⟨by omega,by omega⟩,List.drop_left,k];simp only[i]
theorem Tr{b:List Ch}(d:b.length<=4)(h:∀ c∈b,allowed c=true):(big b.length 1++b.flatMap entry).length<256^4:=by
 have:=Y3 h;rw[zW,js];omega
theorem Re{c:List (List Ch)}(h:jw c.flatten){b:List Ch}(d:b∈c):jw b:=h.sublist (List.sublist_flatten_of_mem d)
theorem Laid.block{d:List (List Ch)}(h:Laid d){b:List Ch}(j:d[i]?=some b):Fh (zz d) (d.flatMap j4).length (j2 0 d) i=some b:=by
 have C:i<d.length:=(zO.1 j).1;have f:b∈d:=ZP j
 have q:d=d.take i++b::d.drop (i+1):=by
  have e:d[i]=b:=(zO.1 j).2;rw[<-e,xX,xQ]
 have t:Be (j2 0 d) i=((d.take i).flatMap j4).length:=by
  unfold Be;rw[Jd,j];simp
 have r:Xs (d.flatMap j4).length (j2 0 d) i=((d.take i).flatMap j4).length+(j4 b).length:=by
  have e:((d.take (i+1)).flatMap j4).length=((d.take i).flatMap j4).length+(j4 b).length:=by
   rw[xH,j,xO,XT,zW];simp
  unfold Xs;rw[Jd]
  cases h2:d[i+1]? with
  | some x=>simp only[Option.map_some,Option.getD_some];rw[e];omega
  | none =>
   rw[List.getElem?_eq_none_iff] at h2;rw[<-e,xF (by omega)];rfl
 have B:((zz d).take (((d.take i).flatMap j4).length+(j4 b).length)).drop ((d.take i).flatMap j4).length=j4 b:=by
  have e:zz d=((d.take i).flatMap j4++j4 b)++((d.drop (i+1)).flatMap j4++frame (big d.length 2++(j2 0 d).flatMap x9)++big (d.flatMap j4).length 4):=by
   unfold zz
   conv=>lhs;lhs;lhs;rw[q]
   simp
  rw[e,show((d.take i).flatMap j4).length+(j4 b).length=((d.take i).flatMap j4++j4 b).length by simp,XK,List.drop_left]
 have A:xh (j4 b)=some (big b.length 1++b.flatMap entry,[]):=by
  have:=Xh (big b.length 1++b.flatMap entry) [] (Tr (h.len b f).2 (h.ok b f));rwa [ZC] at this
 have z:=kx (h.len b f).1 (h.len b f).2 (by omega) (h.ok b f)
 have v:fits (j2 0 d) i b=true:=by
  unfold fits;rw[ZU,ZU];refine⟨⟨?_,by simpa [jw] using Re h.rising f⟩,?_⟩
  ·simp[keyOf,Jd,j]
  ·rw[xq]
   by_cases hlast:i+1=d.length
   ·simp[hlast]
   ·rw[Bool.or_eq_true]
    refine .inr ?_;rw[ZU];refine⟨by simpa using h.full i b (by omega) j,?_⟩;obtain⟨x,n⟩:∃ x,d[i+1]?=some x:=⟨_,xB (by omega)⟩;have o:x∈d:=ZP n;have s:keyOf (j2 0 d) (i+1)=Jo x:=by simp[keyOf,Jd,n]
    rw[s]
    have p:d.drop (i+1)=x::d.drop (i+2):=by
     have e:d[i+1]=x:=(zO.1 n).2;rw[<-e,xX]
    have m:=h.rising;rw[q,p] at m
    cases hxe:x with
    | nil=>have:=(h.len x o).1;rw[hxe] at this;simp at this
    | cons c y =>
     have l:=(h.len b f).1;have g:b≠[]:=fun e=>by rw[e] at l;simp at l
     have u:Av b=(b.getLast g).key:=by unfold Av;rw[List.getLast?_eq_some_getLast g];rfl
     rw[u];unfold jw at m;rw[List.flatten_append,List.flatten_cons,List.flatten_cons,List.pairwise_append] at m;have k:=m.2.1;rw[List.pairwise_append] at k;rw[decide_eq_true_eq];simpa [Jo] using k.2.2 (b.getLast g) (List.getLast_mem g) c (by rw[hxe];simp)
 unfold Fh;rw[r,t,B,A];simp only[z,v,if_true]
theorem Tk(l:List Ch):∀(i:Nat) (b:List Ch),i+1<(chunks l).length->(chunks l)[i]?=some b->b.length=4:=by
 induction l using chunks.induct with
 | case1=>intro i b f _;simp[chunks] at f
 | case2 a b' c d r ih =>
  intro i b f g;rw[chunks] at f g
  cases i with
  | zero=>cases g;rfl
  | succ i=>exact ih i b (by simpa using f) (by simpa using g)
 | case3 l h1 h2 =>
  intro i b f;rw[chunks] at f
  ·simp at f
  ·exact h1
  ·exact h2
theorem Sd{l:List Ch}(f:l≠[])(d:∀ c∈l,allowed c=true)(i:jw l)(g:((chunks l).flatMap j4).length<256^4)(j:l.length<262140):Laid (chunks l) :=
 ⟨fun e=>f (V6.1 e),fun b hb=>I6 hb,Tk l,fun b hb c hc=>d c (I5 hb c hc),by rw[Xz];exact i,g,by rw[ar];omega⟩
end Go.Proofs.YtnipbplghijdmaaGreatDoor.Rf
