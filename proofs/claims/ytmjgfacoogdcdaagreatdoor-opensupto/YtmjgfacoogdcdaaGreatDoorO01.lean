/-
-/
import Derived.ProofKit
set_option linter.all false
namespace Go.Proofs.YtmjgfacoogdcdaaGreatDoor
abbrev No(_:Nat):Prop:=False
abbrev aA(b:Nat):Value:=.pointer (some ⟨b,0,none⟩)
abbrev S7:Value:=.slice none 0 0
abbrev By:=List UInt8
abbrev aC(b:Nat):Addr:=⟨b,0,none⟩
abbrev B3(b o:Nat):Addr:=⟨b,o,none⟩
abbrev aB(n:Int):Value:=.int .i64 n
theorem zR:type_of% @Nat.le_refl:=@Nat.le_refl
theorem zS:type_of% @Nat.lt_or_ge:=@Nat.lt_or_ge
theorem zT:type_of% @Nat.le_trans:=@Nat.le_trans
theorem zU:type_of% @Nat.lt_of_lt_of_le:=@Nat.lt_of_lt_of_le
theorem zV:type_of% @List.mem_append:=@List.mem_append
theorem zW:type_of% @List.mem_singleton:=@List.mem_singleton
theorem zX:type_of% @List.take_add_one:=@List.take_add_one
theorem zY:type_of% @List.take_of_length_le:=@List.take_of_length_le
theorem zZ:type_of% @List.length_cons:=@List.length_cons
theorem ZA:type_of% @List.length_nil:=@List.length_nil
theorem ZB:type_of% @Nat.zero_add:=@Nat.zero_add
theorem ZC:type_of% @Nat.zero_le:=@Nat.zero_le
theorem ZD:type_of% @Array.getElem?_eq_getElem:=@Array.getElem?_eq_getElem
theorem ZE:type_of% @Nat.zero_lt_one:=@Nat.zero_lt_one
theorem ZF:type_of% @Nat.zero_lt_succ:=@Nat.zero_lt_succ
theorem ZG:type_of% @Nat.eq_zero_or_pos:=@Nat.eq_zero_or_pos
theorem ZH:type_of% @List.eq_nil_of_length_eq_zero:=@List.eq_nil_of_length_eq_zero
theorem ZI:type_of% @List.length_filter_le:=@List.length_filter_le
theorem ZJ:type_of% @List.size_toArray:=@List.size_toArray
theorem ZK:type_of% @Array.replicate_succ:=@Array.replicate_succ
theorem ZL:type_of% @Array.replicate_zero:=@Array.replicate_zero
theorem ZM:type_of% @List.push_toArray:=@List.push_toArray
theorem ZN:type_of% @List.append_toArray:=@List.append_toArray
theorem ZO:type_of% @List.nil_append:=@List.nil_append
theorem ZP:type_of% @List.cons_append:=@List.cons_append
theorem ZQ:type_of% @World.size_alloc:=@World.size_alloc
theorem ZR:type_of% @World.ownsRow_nil:=@World.ownsRow_nil
theorem ZT:type_of% @List.getElem?_eq_some_iff:=@List.getElem?_eq_some_iff
theorem ZU:type_of% @List.append_nil:=@List.append_nil
theorem ZV:type_of% @List.length_append:=@List.length_append
theorem ZW:type_of% @List.mem_map:=@List.mem_map
theorem ZX:type_of% @List.take_length:=@List.take_length
theorem ZY:type_of% @List.take_append_drop:=@List.take_append_drop
theorem ZZ:type_of% @List.mem_of_mem_drop:=@List.mem_of_mem_drop
theorem xA:type_of% @Nat.lt_of_le_of_lt:=@Nat.lt_of_le_of_lt
theorem xB:type_of% @List.mem_cons:=@List.mem_cons
theorem xC:type_of% @List.getElem_cons_drop:=@List.getElem_cons_drop
theorem xD:type_of% @List.length_take:=@List.length_take
theorem xE:type_of% @Nat.min_eq_left:=@Nat.min_eq_left
theorem xF:type_of% @List.length_set:=@List.length_set
theorem xG:type_of% @List.drop_eq_nil_of_le:=@List.drop_eq_nil_of_le
theorem xH:type_of% @List.length_drop:=@List.length_drop
theorem xI:type_of% @List.getElem_mem:=@List.getElem_mem
theorem xJ:type_of% @List.mem_cons_of_mem:=@List.mem_cons_of_mem
theorem xK:type_of% @List.length_singleton:=@List.length_singleton
theorem xL:type_of% @Nat.add_assoc:=@Nat.add_assoc
theorem xM:type_of% @List.drop_eq_getElem_cons:=@List.drop_eq_getElem_cons
theorem xN:type_of% @List.filter_sublist:=@List.filter_sublist
theorem xO:type_of% @List.map_cons:=@List.map_cons
theorem xP:type_of% @List.pairwise_cons:=@List.pairwise_cons
theorem xQ:type_of% @List.pairwise_map:=@List.pairwise_map
theorem xR:type_of% @List.map_congr_left:=@List.map_congr_left
theorem xS:type_of% @List.length_map:=@List.length_map
theorem xU:type_of% @List.filter_eq_self:=@List.filter_eq_self
theorem xV:type_of% @List.length_pos_iff:=@List.length_pos_iff
theorem xW:type_of% @List.mem_cons_self:=@List.mem_cons_self
theorem xX:type_of% @World.block_lt_of_cell?:=@World.block_lt_of_cell?
theorem xY:type_of% @List.take_succ_eq_append_getElem:=@List.take_succ_eq_append_getElem
theorem xZ:type_of% @Nat.xor_lt_two_pow:=@Nat.xor_lt_two_pow
theorem XA:type_of% @UInt8.toNat_ofNat':=@UInt8.toNat_ofNat'
theorem XB:type_of% @List.append_assoc:=@List.append_assoc
theorem XC:type_of% @List.map_append:=@List.map_append
theorem XD:type_of% @Nat.sub_self:=@Nat.sub_self
theorem XE:type_of% @Option.map_eq_some_iff:=@Option.map_eq_some_iff
theorem XF:type_of% @List.mem_of_getElem?:=@List.mem_of_getElem?
theorem XG:type_of% @List.getElem?_eq_getElem:=@List.getElem?_eq_getElem
theorem XH:type_of% @List.getElem?_set_ne:=@List.getElem?_set_ne
theorem XI:type_of% @Option.toList_some:=@Option.toList_some
theorem XJ:type_of% @Bool.and_eq_true:=@Bool.and_eq_true
theorem XK:type_of% @List.drop_drop:=@List.drop_drop
theorem XL:type_of% @List.lt_trans:=@List.lt_trans
theorem XM:type_of% @List.getElem_of_mem:=@List.getElem_of_mem
theorem XO:type_of% @List.length_take_le:=@List.length_take_le
theorem XP:type_of% @List.mem_of_mem_take:=@List.mem_of_mem_take
theorem XQ:type_of% @Int.toNat_natCast:=@Int.toNat_natCast
theorem XS:type_of% @Nat.lt_irrefl:=@Nat.lt_irrefl
theorem XT:type_of% @List.getElem?_map:=@List.getElem?_map
theorem XU:type_of% @List.pairwise_iff_getElem:=@List.pairwise_iff_getElem
theorem XV:type_of% @List.getElem?_eq_none:=@List.getElem?_eq_none
theorem XW:type_of% @Classical.byContradiction:=@Classical.byContradiction
section
variable {p q:Prop}
theorem zC(h:p:=by omega):p:=h
theorem zD(h:p:=by simp):p:=h
theorem zE(h:p:=by decide):p:=h
theorem zF(h:p:=by grind):p:=h
theorem zG(h:p:=by simp_all):p:=h
theorem zA(a:p)(h:p->q:=by omega):q:=h a
theorem zB{r:Prop}(a:p)(b:r)(h:p->r->q:=by omega):q:=h a b
theorem zJ{A:Type}(a:A):∃ c,c=a:=⟨_,rfl⟩
end
end Go.Proofs.YtmjgfacoogdcdaaGreatDoor
namespace Go.Proofs.YtmjgfacoogdcdaaGreatDoor.Rf
variable {a b k l q r t:List UInt8} {F i j most n num:Nat} {p:Nat×List UInt8} {ps:List (Nat×List UInt8)}
def big(n:Nat):Nat->List UInt8
 | 0=>[]
 | m+1=>big (n/256) m++[UInt8.ofNat (n%256)]
theorem jk(n m:Nat):(big n m).length=m:=by induction m generalizing n with|zero=>rfl|succ m ih=>simp[big,ih]
def j8(n:Nat):By:=if h:n<10 then [UInt8.ofNat (48+n)] else j8 (n/10)++[UInt8.ofNat (48+n%10)]
def bit(c:Nat):Nat:=if c%2=1 then(c/2) ^^^ 2197175160 else c/2
def bits:Nat->Nat->Nat
 | 0,c=>c
 | k+1,c=>bits k (bit c)
def X7(c:Nat)(x:UInt8):Nat:=bits 8 (c ^^^ x.toNat)
def sum(l:By):Nat:=4294967295-l.foldl X7 4294967295
def frame(l:By):By:=big l.length 4++big (sum l) 4++l
structure Ch where
 key:List UInt8
 value:List UInt8
 gone:Bool
def text(l:By):By:=big l.length 1++l
def entry(c:Ch):By:=if c.gone then 2::text c.key else 1::(text c.key++text c.value)
def jm:Nat->List (List Ch)->List UInt8
 | _,[]=>[]
 | last,b::r=>frame (big (last+1) 8++big b.length 1++b.flatMap entry)++jm (last+1) r
def od(next last log base:Nat)(runs:List Nat):By:=frame (big next 8++big last 8++big log 8++big base 8++big runs.length 2++runs.flatMap λr=>big r 8)
def number(l:By):Nat:=l.foldl (λn x=>n*256+x.toNat) 0
theorem u3(l:By)(x:UInt8):number (l++[x])=number l*256+x.toNat:=by grind [number]
theorem J3(n m:Nat)(h:n<256^m):number (big n m)=n:=by induction m generalizing n with|zero=>simp at h;subst h;rfl|succ m ih=>grind [big,u3,XA]
theorem Qq(l:By):number l<256^l.length:=by
 have H:∀(l:By) (n:Nat),l.foldl (λn x=>n*256+x.toNat) n<(n+1)*256^l.length:=by
  intro l
  induction l with
  | nil=>intro n;simp
  | cons x r ih =>
   intro n
   have d:x.toNat<256:=x.toNat_lt
   have c:=ih (n*256+x.toNat)
   have b:n*256+x.toNat+1<=(n+1)*256:=by omega
   calc (x::r).foldl (λn x=>n*256+x.toNat) n=r.foldl (λn x=>n*256+x.toNat) (n*256+x.toNat):=rfl
    _<(n*256+x.toNat+1)*256^r.length:=c
    _<=((n+1)*256)*256^r.length:=Nat.mul_le_mul_right _ b
    _=(n+1)*256^(x::r).length:=by grind
 grind [number]
theorem Jr:∀(k:Nat) (l:By),l.length=k->big (number l) k=l:=by
 intro k
 induction k with
 | zero=>intro l c;rw[ZH c];rfl
 | succ k ih =>
  intro l c
  have b:l≠[]:=λe=>by rw[e] at c;simp at c
  have e:l=l.dropLast++[l.getLast b]:=(List.dropLast_concat_getLast b).symm
  have d:l.dropLast.length=k:=by simp[c]
  have j:(l.getLast b).toNat<256:=(l.getLast b).toNat_lt
  have f:number l=number l.dropLast*256+(l.getLast b).toNat:=by rw[<-u3,<-e]
  have i:number l/256=number l.dropLast:=by rw[f];omega
  have g:number l%256=(l.getLast b).toNat:=by rw[f];omega
  rw[big,i,g,ih _ d]
  conv=>rhs;rw[e]
  simp
def qk(l:By):Option (By×By) :=
 if 8<=l.length/\8+number (l.take 4)<=l.length/\sum ((l.drop 8).take (number (l.take 4)))=number ((l.drop 4).take 4)then some ((l.drop 8).take (number (l.take 4)),l.drop (8+number (l.take 4)))else none
theorem Bd(l:By):sum l<256^4:=by unfold sum;omega
theorem Y5(l r:By)(h:l.length<256^4):qk (frame l++r)=some (l,r):=by
 have c:(big l.length 4).length=4:=jk _ _;have b:(big (sum l) 4).length=4:=jk _ _;have k:(frame l++r).take 4=big l.length 4:=by grind [frame]
 have j:((frame l++r).drop 4).take 4=big (sum l) 4:=by grind [frame]
 have d:(frame l++r).drop 8=l++r:=by unfold frame;rw[XB];(have:(big l.length 4++big (sum l) 4).length=8:=by simp[c,b]);rw[List.drop_append_of_le_length zC,List.drop_of_length_le zC,ZO]
 have i:(frame l++r).length=8+l.length+r.length:=by unfold frame;simp[c,b];omega
 unfold qk;rw[k,j,d,J3 _ _ h,J3 _ _ (Bd l),i];have g:(l++r).take l.length=l:=zD;rw[g];rw[if_pos ⟨zC,zC,rfl⟩];have f:(frame l++r).drop (8+l.length)=r:=by rw[<-XK,d];simp
 rw[f]
theorem Y0(h:qk l=some (b,r)):l=frame b++r:=by unfold qk at h;split at h;grind [frame,Jr,XK,ZY];cases h
def j3(l:List Ch):Prop:=l.Pairwise (λa b=>a.key<b.key)
def ins(c:Ch):List Ch->List Ch
 | []=>[c]
 | x::r=>if c.key<x.key then c::x::r else if x.key=c.key then c::r else x::ins c r
theorem jb9{c x:Ch}{l:List Ch}(h:x∈ins c l):x=c\/x∈l:=by induction l with|nil=>simp[ins] at h;exact .inl h|cons y r ih=>grind [ins]
theorem ar{c:Ch}{l:List Ch}(h:j3 l):j3 (ins c l):=by induction l with|nil=>simp[ins,j3]|cons x r ih=>grind [j3,xP,ins,jb9]
def Qn(c:Ch)(s:List Ch×Bool)(x:Ch):List Ch×Bool :=
 let s1:=if s.2=false/\¬x.key<c.key then(s.1++[c],true)else s
 if x.key≠c.key then(s1.1++[x],s1.2)else s1
def ux(c:Ch)(s:List Ch×Bool):List Ch:=if s.2=false then s.1++[c] else s.1
def put(l:List Ch)(c:Ch):List Ch:=ux c (l.foldl (Qn c) ([],false))
theorem Cv{c:Ch}{l b:List Ch}(h:∀ x∈l,x.key≠c.key):l.foldl (Qn c) (b,true)=(b++l,true):=by induction l generalizing b with|nil=>simp|cons x r ih=>grind [xW,Qn]
theorem Te{c:Ch}{l b:List Ch}(h:j3 l):ux c (l.foldl (Qn c) (b,false))=b++ins c l:=by induction l generalizing b with|nil=>simp[ins,ux]|cons x r ih=>unfold j3 at h;rw[xP] at h;obtain⟨g,f⟩:=h;rw[List.foldl_cons];unfold ins;by_cases hlt:c.key<x.key;grind [Qn,Cv,ux];rw[if_neg hlt];by_cases he:x.key=c.key;grind [Qn,Cv,ux];rw[if_neg he];(have d:x.key<c.key:=zF);(have e:Qn c (b,false) x=(b++[x],false):=by simp[Qn,d,he]);rw[e,ih f];simp
theorem rk{c:Ch}{l:List Ch}(h:j3 l):put l c=ins c l:=by grind [Te,put]
def below(l:List Ch)(k:By):Nat:=(l.takeWhile (λx=>decide (x.key<k))).length
def A1(c:Ch)(l:List Ch):List Ch :=
 if (l[below l c.key]?).map Ch.key=some c.key then l.set (below l c.key) c else l.take (below l c.key)++c::l.drop (below l c.key)
theorem jd0{c:Ch}{l:List Ch}(h:j3 l):A1 c l=ins c l:=by induction l with|nil=>simp[A1,ins,below]|cons x r ih=>unfold j3 at h;rw[xP] at h;obtain⟨f,d⟩:=h;by_cases hx:x.key<c.key;(have b:below (x::r) c.key=below r c.key+1:=by simp[below,hx]);(have e:A1 c (x::r)=x::A1 c r:=by grind [A1]);rw[e,ih d];grind [ins];(have b:below (x::r) c.key=0:=by simp[below,hx]);grind [A1,ins]
def over(l more:List Ch):List Ch:=more.foldl (λl c=>put l c) l
def there(l:List Ch):List Ch:=l.filter (λc=>!c.gone)
theorem Qw{l more:List Ch}(h:j3 l):j3 (over l more):=by induction more generalizing l with|nil=>exact h|cons c r ih=>have e:over l (c::r)=over (put l c) r:=rfl;grind [rk,ar]
theorem Eh(l more:List Ch)(c:Ch):over l (more++[c])=put (over l more) c:=by simp[over,List.foldl_append]
def memory(bs:List (List Ch)):List Ch:=bs.foldl over []
theorem zi(bs:List (List Ch)):j3 (memory bs):=by
 have H:∀(bs:List (List Ch)) (l:List Ch),j3 l->j3 (bs.foldl over l):=by intro bs;induction bs with|nil=>intro l h;exact h|cons b r ih=>grind [Qw]
 exact H bs [] List.Pairwise.nil
theorem Ua(bs:List (List Ch))(b:List Ch):memory (bs++[b])=over (memory bs) b:=by grind [memory]
def yk(l:List Ch)(k:By):Option Ch:=l.find? (λc=>decide (c.key=k))
def Ze(a b:By)(c:Ch):Bool:=decide (¬c.key<a)&&(decide (b=[])||decide (c.key<b))
def gv(l:List Ch)(a b:By)(most:Nat):List Ch:=((there l).filter (Ze a b)).take most
theorem Bw{l:List Ch}(h:j3 l)(k:By):l.drop (below l k)=l.filter (λc=>decide (¬c.key<k)):=by induction l with|nil=>simp[below]|cons x r ih=>unfold j3 at h;rw[xP] at h;by_cases hx:x.key<k;(have b:below (x::r) k=below r k+1:=by simp[below,hx]);rw[b];simp[ih h.2,hx];(have b:below (x::r) k=0:=by simp[below,hx]);grind [xU]
theorem jd3{l:List Ch}(h:j3 l)(k:By):yk l k=(l[below l k]?).filter (λc=>decide (c.key=k)):=by induction l with|nil=>simp[yk,below]|cons x r ih=>unfold j3 at h;rw[xP] at h;by_cases hx:x.key<k;(have d:below (x::r) k=below r k+1:=by simp[below,hx]);(have b:x.key≠k:=λe=>zF);rw[d,List.getElem?_cons_succ,<-ih h.2];simp[yk,b];(have d:below (x::r) k=0:=by simp[below,hx]);grind [yk]
theorem takeWhile_filter{l:List Ch}(h:j3 l)(b:By):l.takeWhile (λc=>decide (b=[])||decide (c.key<b))=l.filter (λc=>decide (b=[])||decide (c.key<b)):=by induction l with|nil=>rfl|cons x r ih=>unfold j3 at h;rw[xP] at h;by_cases hx:(decide (b=[])||decide (x.key<b))=true;rw[List.takeWhile_cons_of_pos (p:=λc:Ch=>decide (b=[])||decide (c.key<b)) hx,List.filter_cons_of_pos (p:=λc:Ch=>decide (b=[])||decide (c.key<b)) hx,ih h.2];grind [List.takeWhile_cons_of_neg,List.filter_eq_nil_iff]
def allowed(c:Ch):Bool:=decide (1<=c.key.length)&&decide (c.key.length<=16)&&decide (c.value.length<=40)&&!(c.gone&&decide (c.value≠[]))
theorem yn(c:Ch):allowed c=true↔1<=c.key.length/\c.key.length<=16/\c.value.length<=40/\(c.gone=true->c.value=[]):=by grind [allowed]
def qm(b:List Ch):Bool:=decide (1<=b.length)&&decide (b.length<=8)&&b.all allowed
def yb:List UInt8->Option (List UInt8×List UInt8)
 | []=>none
 | n::r=>if n.toNat<=r.length then some (r.take n.toNat,r.drop n.toNat)else none
def J0:List UInt8->Option (Ch×List UInt8)
 | []=>none
 | k::r =>
  if k=1 then
   match yb r with
   | none=>none
   | some (key,r1) =>
    match yb r1 with
    | none=>none
    | some (v,r2)=>if allowed ⟨key,v,false⟩ then some (⟨key,v,false⟩,r2)else none
  else if k=2 then
   match yb r with
   | none=>none
   | some (key,r1)=>if allowed ⟨key,[],true⟩ then some (⟨key,[],true⟩,r1)else none
  else none
def qw:Nat->List UInt8->Option (List Ch×List UInt8)
 | 0,l=>some ([],l)
 | n+1,l =>
  match J0 l with
  | none=>none
  | some (c,r) =>
   match qw n r with
   | none=>none
   | some (cs,r')=>some (c::cs,r')
def zj(most:Nat):List UInt8->Option (List Ch)
 | []=>none
 | n::r=>if 1<=n.toNat/\n.toNat<=most then
     match qw n.toNat r with
     | some (cs,[])=>some cs
     | _=>none
  else none
def au(num:Nat)(l:By):Option (List Ch):=if 8<=l.length/\number (l.take 8)=num then zj 8 (l.drop 8)else none
def zw(num:Nat)(l:List UInt8):Option (List Ch×List UInt8) :=
 match qk l with
 | none=>none
 | some (h,r) =>
  match au num h with
  | none=>none
  | some b=>some (b,r)
theorem sn(n:Nat):big n 1=[UInt8.ofNat (n%256)]:=by simp[big]
theorem Am(h:t.length<256)(r:By):yb (text t++r)=some (t,r):=by grind [XA,text,sn,yb]
theorem ph(h:yb l=some (t,r)):l=text t++r/\t.length<256:=by cases l with|nil=>simp[yb] at h|cons n q=>simp only[yb] at h;split at h;rename_i hn;cases h;have b:n.toNat<256:=n.toNat_lt;(have c:(q.take n.toNat).length=n.toNat:=by simp;omega);refine⟨?_,zC⟩;unfold text;rw[c,sn,Nat.mod_eq_of_lt b];simp;cases h
theorem Gs{c:Ch}(h:allowed c=true)(r:By):J0 (entry c++r)=some (c,r):=by obtain⟨k,v,g⟩:=c;grind [yn,entry,J0,Am]
theorem My{c:Ch}(h:J0 l=some (c,r)):l=entry c++r/\allowed c=true:=by cases l with|nil=>simp[J0] at h|cons k q=>grind [J0,ph,entry]
theorem Dz{cs:List Ch}(h:∀ c∈cs,allowed c=true)(r:By):qw cs.length (cs.flatMap entry++r)=some (cs,r):=by induction cs with|nil=>simp[qw]|cons c q ih=>grind [qw,Gs]
theorem Df{cs:List Ch}(h:qw n l=some (cs,r)):l=cs.flatMap entry++r/\cs.length=n/\∀ c∈cs,allowed c=true:=by induction n generalizing l cs with|zero=>grind [qw]|succ n ih=>grind [qw,My]
theorem nu{cs:List Ch}(d:1<=cs.length)(b:cs.length<=most)(f:most<256)(h:∀ c∈cs,allowed c=true):zj most (big cs.length 1++cs.flatMap entry)=some cs:=by
 have e:(UInt8.ofNat (cs.length%256)).toNat=cs.length:=by simp[XA];omega
 rw[sn];simp only[List.singleton_append,zj];rw[e,if_pos ⟨d,b⟩];have:=Dz h [];simp_all
theorem rz{cs:List Ch}(h:zj most l=some cs):l=big cs.length 1++cs.flatMap entry/\1<=cs.length/\cs.length<=most/\∀ c∈cs,allowed c=true:=by cases l with|nil=>simp[zj] at h|cons n q=>simp only[zj] at h;split at h;rename_i hn;split at h;rename_i cs' h1;cases h;obtain⟨g,f,d⟩:=Df h1;have b:n.toNat<256:=n.toNat_lt;refine⟨?_,zC,zC,d⟩;rw[f,sn,Nat.mod_eq_of_lt b,g];simp;cases h;cases h
def jx(num:Nat)(b:List Ch):By:=frame (big num 8++big b.length 1++b.flatMap entry)
theorem Di{c:Ch}(h:allowed c=true):(entry c).length<=59:=by grind [yn,entry,text,jk]
theorem Jy{b:List Ch}(h:∀ c∈b,allowed c=true):(b.flatMap entry).length<=59*b.length:=by induction b with|nil=>simp|cons c r ih=>grind [Di]
theorem yj(b:List Ch):qm b=true↔1<=b.length/\b.length<=8/\∀ c∈b,allowed c=true:=by simp[qm,and_assoc]
theorem uf{b:List Ch}(f:num<256^8)(h:qm b=true)(r:By):zw num (jx num b++r)=some (b,r):=by
 obtain⟨k,j,d⟩:=(yj b).1 h;have g:=Jy d;have c:(big num 8++big b.length 1++b.flatMap entry).length<256^4:=by grind [jk]
 unfold zw jx;rw[Y5 _ _ c];have i:(big num 8).length=8:=jk _ _;have m:(big num 8++big b.length 1++b.flatMap entry).take 8=big num 8:=zG;have l:(big num 8++big b.length 1++b.flatMap entry).drop 8=big b.length 1++b.flatMap entry:=zG;grind [au,J3,nu]
theorem lf{b:List Ch}(h:zw num l=some (b,r)):l=jx num b++r/\qm b=true:=by unfold zw at h;cases h1:qk l with|none=>rw[h1] at h;cases h|some p=>obtain⟨x,q⟩:=p;rw[h1] at h;simp only at h;cases h2:au num x with|none=>rw[h2] at h;cases h|some b'=>rw[h2] at h;cases h;unfold au at h2;split at h2;grind [rz,yj,Y0,jx,Jr,ZY];cases h2
theorem bw(last:Nat)(bs:List (List Ch))(b:List Ch):jm last (bs++[b])=jm last bs++jx (last+bs.length+1) b:=by induction bs generalizing last with|nil=>simp[jm,jx]|cons x r ih=>grind [jm]
def jh0(last:Nat)(l:List UInt8):Nat->List (List Ch)->List UInt8->Prop
 | 0,bs,r=>bs=[]/\r=l
 | n+1,bs,r=>∃ cs q b,bs=cs++[b]/\jh0 last l n cs q/\last+cs.length<1000000000/\zw (last+cs.length+1) q=some (b,r)
def zt(last:Nat)(l:By)(bs:List (List Ch))(r:By):Prop:=∃ n,jh0 last l n bs r
theorem zt.none{last:Nat}:zt last l [] l:=⟨0,rfl,rfl⟩
theorem zt.more{last:Nat}{bs:List (List Ch)}{b:List Ch}{c:By}(h:zt last l bs r)(f:last+bs.length<1000000000)(d:zw (last+bs.length+1) r=some (b,c)):zt last l (bs++[b]) c:=by obtain⟨n,h⟩:=h;exact⟨n+1,bs,r,b,rfl,h,f,d⟩
theorem zt.elim{last:Nat}{M:List (List Ch)->By->Prop}(i:M [] l)(g:∀ bs r b r',zt last l bs r->last+bs.length<1000000000->zw (last+bs.length+1) r=some (b,r')->M bs r->M (bs++[b]) r'){bs:List (List Ch)}(h:zt last l bs r):M bs r:=by obtain⟨n,h⟩:=h;induction n generalizing bs r with|zero=>obtain⟨rfl,rfl⟩:=h;exact i|succ n ih=>obtain⟨cs,q,b,rfl,c,f,d⟩:=h;exact g cs q b r ⟨n,c⟩ f d<|ih c
theorem zt.inv{last:Nat}{bs:List (List Ch)}(h:zt last l bs r):(bs=[]/\r=l)\/∃ cs q b,bs=cs++[b]/\zt last l cs q/\last+cs.length<1000000000/\zw (last+cs.length+1) q=some (b,r):=by obtain⟨n,h⟩:=h;cases n with|zero=>exact .inl h|succ n=>obtain⟨cs,q,b,e,f,d,c⟩:=h;exact .inr ⟨cs,q,b,e,⟨n,f⟩,d,c⟩
def Over(last:Nat)(bs:List (List Ch))(r:By):Prop:=¬last+bs.length<1000000000\/zw (last+bs.length+1) r=none
theorem zt.bytes{last:Nat}{bs:List (List Ch)}(h:zt last l bs r):l=jm last bs++r/\∀ b∈bs,qm b=true:=by refine zt.elim (M:=λbs r=>l=jm last bs++r/\∀ b∈bs,qm b=true) ⟨rfl,λ_ h=>by cases h⟩ ?_ h;grind [lf,bw]
theorem zt.pfx{last:Nat}{bs cs:List (List Ch)}(h:zt last l bs r)(k:zt last l cs q)(d:bs.length=cs.length):bs=cs/\r=q:=by refine zt.elim (M:=λbs r=>∀ cs q,zt last l cs q->bs.length=cs.length->bs=cs/\r=q) ?_ ?_ h cs q k d;intro cs q k d;obtain⟨rfl,rfl⟩|⟨f,g,b,rfl,_⟩:=k.inv;exact⟨rfl,rfl⟩;simp at d;intro bs r b i s p o ih cs q k d;obtain⟨rfl,rfl⟩|⟨f,g,c,rfl,n,m,j⟩:=k.inv;simp at d;grind
theorem zt.less{last:Nat}{bs:List (List Ch)}(h:zt last l bs r):∀ n,n<=bs.length->∃ cs q,zt last l cs q/\cs.length=n/\(n<bs.length->∃ b q',last+n<1000000000/\zw (last+n+1) q=some (b,q')):=by
 refine zt.elim (M:=λbs r=>∀ n,n<=bs.length->∃ cs q,zt last l cs q/\cs.length=n/\(n<bs.length->∃ b q',last+n<1000000000/\zw (last+n+1) q=some (b,q'))) ?_ ?_ h;intro n c;simp at c;exact⟨[],l,.none,by simp[c],zD⟩;intro bs r b d i g f ih n c;by_cases h:n<=bs.length;grind;have e:n=(bs++[b]).length:=by simp at c ⊢;omega
 exact⟨bs++[b],d,.more i g f,e.symm,zC⟩
theorem zt.unique{last:Nat}{bs cs:List (List Ch)}(h:zt last l bs r)(c:Over last bs r)(k:zt last l cs q)(o:Over last cs q):bs=cs/\r=q:=by
 have H:∀ {bs cs:List (List Ch)} {r q:By},zt last l bs r->Over last bs r->zt last l cs q->¬bs.length<cs.length:=by intro bs cs r q h c k d;obtain⟨s,p,j,i,g⟩:=k.less bs.length zC;obtain⟨b,n,m,f⟩:=g d;obtain⟨rfl,rfl⟩:=h.pfx j i.symm;obtain c|c:=c;exact c m;rw[c] at f;cases f
 have e:bs.length=cs.length:=zF;exact h.pfx k e
theorem M9{last:Nat}{bs:List (List Ch)}(h:∀ b∈bs,qm b=true)(j:last+bs.length<=1000000000)(r:By):zt last (jm last bs++r) bs r:=by
 have H:∀(q bs:List (List Ch)),(∀ b∈bs++q,qm b=true)->last+(bs++q).length<=1000000000->∀ d,zt last (jm last (bs++q)++r) bs (d)->d=jm (last+bs.length) q++r->zt last (jm last (bs++q)++r) (bs++q) r:=by intro q;induction q with|nil=>grind [jm]|cons b q ih=>intro bs f c d h e;(have l:bs++b::q=(bs++[b])++q:=zD);have g:qm b=true:=f b zD;simp only[ZV,zZ] at c;(have k:zw (last+bs.length+1) d=some (b,jm (last+bs.length+1) q++r):=by rw[e];simp only[jm,XB];have:=uf (num:=last+bs.length+1) zC g (jm (last+bs.length+1) q++r);simpa [jx] using this);have i:=zt.more h zC k;rw[l] at i f ⊢;refine ih (bs++[b]) f (by simp;omega) _ i ?_;simp[xL]
 have:=H bs [] (by simpa using h) (by simpa using j) _ .none zD;simpa using this
theorem C4(last:Nat)(bs:List (List Ch)):Over last bs []:=by refine .inr ?_;simp[zw,qk]
structure Man where
 next:Nat
 last:Nat
 log:Nat
 base:Nat
 runs:List Nat
def Man.settled(m:Man):List Nat:=if m.base=0 then m.runs else m.runs++[m.base]
def Man.numbers(m:Man):List Nat:=m.settled++[m.log]
abbrev Man.Good(m:Man):Prop:=m.next<=2000000000/\m.last<=1000000000/\(∀ n∈m.numbers,1<=n/\n<m.next)/\m.numbers.Nodup
def Man.bytes(m:Man):By:=od m.next m.last m.log m.base m.runs
def zr:Nat->List UInt8->List Nat
 | 0,_=>[]
 | n+1,l=>number (l.take 8)::zr n (l.drop 8)
def Zr(l:List UInt8):Option Man :=
 match qk l with
 | none=>none
 | some (h,r) =>
  if r=[]/\34<=h.length/\h.length=34+8*number ((h.drop 32).take 2)then
   let m:Man:=⟨number (h.take 8),number ((h.drop 8).take 8),number ((h.drop 16).take 8),number ((h.drop 24).take 8),zr (number ((h.drop 32).take 2)) (h.drop 34)⟩
   if m.Good then some m else none
  else none
theorem Mq{rs:List Nat}(h:∀ r∈rs,r<256^8)(q:By):zr rs.length (rs.flatMap (λr=>big r 8)++q)=rs:=by induction rs with|nil=>rfl|cons x r ih=>have b:(big x 8).length=8:=jk _ _;grind [zr,J3]
theorem Mw:∀(n:Nat) (l:By),l.length=8*n->(zr n l).flatMap (λr=>big r 8)=l:=by intro n;induction n with|zero=>intro l b;simp at b;subst b;rfl|succ n ih=>grind [zr,Jr,ZY]
theorem ed(n:Nat)(l:By):(zr n l).length=n:=by induction n generalizing l with|zero=>rfl|succ n ih=>simp[zr,ih]
theorem Man.Good.bounds{m:Man}(h:m.Good):m.next<256^8/\m.last<256^8/\m.log<256^8/\m.base<256^8/\∀ r∈m.runs,r<256^8:=by obtain⟨g,f,b,d⟩:=h;have c:=b m.log (by simp[Man.numbers]);refine⟨zC,zC,zC,?_,λr hr=>?_⟩;by_cases hb:m.base=0;omega;have:=b m.base (by simp[Man.numbers,Man.settled,hb]);omega;have:=b r (by grind [Man.numbers,Man.settled]);omega
theorem Xu{m:Man}(h:m.Good)(j:m.runs.length<65536):Zr m.bytes=some m:=by
 obtain⟨q,p,o,l,d⟩:=h.bounds;obtain⟨next,last,log,base,runs⟩:=m;simp only at q p o l d j;have i:(big next 8).length=8:=jk _ _;have v:(big last 8).length=8:=jk _ _;have u:(big log 8).length=8:=jk _ _;have t:(big base 8).length=8:=jk _ _;have g:(big runs.length 2).length=2:=jk _ _;have M:(runs.flatMap λr=>big r 8).length=8*runs.length:=by clear d j h g;induction runs with|nil=>rfl|cons x r ih=>grind [jk]
 generalize hA:big next 8=A at *;generalize hB:big last 8=B at *;generalize hC:big log 8=C at *;generalize hD:big base 8=D at *;generalize hE:big runs.length 2=E at *;generalize hF:(runs.flatMap λr=>big r 8)=F at *;have y:Man.bytes ⟨next,last,log,base,runs⟩=frame (A++(B++(C++(D++(E++F))))):=by grind [Man.bytes,od]
 have b:(A++(B++(C++(D++(E++F))))).length=34+8*runs.length:=zF;have c:∀(X Y:By) n,X.length=n->(X++Y).take n=X:=λX Y n e=>by subst e;simp
 have z:∀(X Y:By) n,X.length=n->(X++Y).drop n=Y:=λX Y n e=>by subst e;simp
 have L:=z A (B++(C++(D++(E++F)))) 8 i;have J:(A++(B++(C++(D++(E++F))))).drop 16=C++(D++(E++F)):=zF;have I:(A++(B++(C++(D++(E++F))))).drop 24=D++(E++F):=zF;have H:(A++(B++(C++(D++(E++F))))).drop 32=E++F:=zF;have G:(A++(B++(C++(D++(E++F))))).drop 34=F:=by grind [XK]
 have k:=Y5 (A++(B++(C++(D++(E++F))))) [] (by rw[b];omega);rw[ZU] at k;have f:number E=runs.length:=by grind [J3]
 unfold Zr;rw[y,k];simp only[L,J,I,H,G,c A _ 8 i,c B _ 8 v,c C _ 8 u,c D _ 8 t,c E _ 2 g,f,b];rw[if_pos ⟨trivial,zC,trivial⟩];have s:zr runs.length F=runs:=by have:=Mq d [];simp_all
 rw[s,<-hA,<-hB,<-hC,<-hD,J3 _ _ q,J3 _ _ p,J3 _ _ o,J3 _ _ l,if_pos h]
theorem ou{m:Man}(h:Zr l=some m):l=m.bytes/\m.Good/\m.runs.length<65536:=by unfold Zr at h;cases h1:qk l with|none=>rw[h1] at h;cases h|some p=>obtain⟨x,r⟩:=p;rw[h1] at h;simp only at h;split at h;rename_i hc;obtain⟨rfl,d,f⟩:=hc;split at h;rename_i hg;cases h;have c:=Qq<|(x.drop 32).take 2;(have b:((x.drop 32).take 2).length=2:=by simp;omega);rw[b] at c;refine⟨?_,hg,by grind [ed]⟩;rw[Y0 h1,ZU];unfold Man.bytes od;simp only[ed];rw[Jr 8 _ (by simp;omega),Jr 8 _ (by simp;omega),Jr 8 _ (by simp;omega),Jr 8 _ (by simp;omega),Jr 2 _ b,Mw _ _ (by simp;omega)];grind [XK,ZY];cases h;cases h
theorem Nw(a b:By):a<b\/a=b\/b<a:=Std.lt_trichotomy a b
theorem jaq(h:a<b):a≠b:=λe=>zF
theorem jjh(h:a<b):¬b<a:=λk=>List.lt_irrefl _<|XL h k
theorem J4(x:Ch)(l:List Ch)(k:By):yk (x::l) k=if x.key=k then some x else yk l k:=by grind [yk]
theorem jd4{l:List Ch}{c:Ch}(h:yk l k=some c):c.key=k:=by have:=List.find?_some h;simpa using this
theorem Ag{l:List Ch}{c:Ch}(h:yk l k=some c):c∈l:=List.mem_of_find?_eq_some h
theorem r9{l:List Ch}(h:∀ c∈l,c.key≠k):yk l k=none:=List.find?_eq_none.2 (λc hc=>by simpa using h c hc)
theorem r8{l:List Ch}(h:j3 l){c:Ch}(b:c∈l):yk l c.key=some c:=by induction l with|nil=>cases b|cons x r ih=>grind [j3,xP,J4]
theorem Wj{a b:List Ch}(d:j3 a)(c:j3 b)(h:∀ k,yk a k=yk b k):a=b:=by
 induction a generalizing b with
 | nil =>
  cases b with
  | nil=>rfl
  | cons y s =>
   have:=h y.key
   rw[J4,if_pos rfl] at this
   cases this
 | cons x r ih =>
  cases b with
  | nil =>
   have:=h x.key
   rw[J4,if_pos rfl] at this
   cases this
  | cons y s =>
   have l:=d
   have j:=c
   unfold j3 at d c
   rw[xP] at d c
   have i:¬x.key<y.key:=λhlt=>by
    have:=h x.key
    grind [J4,r9]
   have g:¬y.key<x.key:=λhlt=>by
    have:=h y.key
    grind [J4,r9]
   have m:x.key=y.key:=(Nw x.key y.key).elim (λh=>(i h).elim) (λh=>h.elim id (λh=>(g h).elim))
   have f:x=y:=by
    have:=h x.key
    grind [J4]
   subst f
   refine congrArg _ (ih d.2 c.2 (λk=>?_))
   by_cases hk:x.key=k
   .grind [r9]
   .have:=h k
    grind [J4]
theorem jd5{l:List Ch}(h:j3 l)(c:Ch)(k:By):yk (ins c l) k=if c.key=k then some c else yk l k:=by induction l with|nil=>simp[ins,J4]|cons x r ih=>grind [j3,ins,J4]
theorem jaz{l more:List Ch}(h:j3 l)(b:j3 more)(k:By):yk (over l more) k=(yk more k).or (yk l k):=by induction more generalizing l with|nil=>simp[over,yk]|cons x r ih=>unfold j3 at b;rw[xP] at b;(have e:over l (x::r)=over (ins x l) r:=by simp[over,rk h]);rw[e,ih (ar h) b.2,jd5 h,J4];grind [r9]
def merged(ls:List (List Ch)):List Ch:=ls.foldr (λl acc=>over acc l) []
theorem Zl(l:List Ch)(ls:List (List Ch)):merged (l::ls)=over (merged ls) l:=rfl
theorem zh(ls:List (List Ch)):j3 (merged ls):=by induction ls with|nil=>exact List.Pairwise.nil|cons l ls ih=>exact Qw ih
def sa(ls:List (List Ch))(k:By):Option Ch:=ls.foldr (λl acc=>(yk l k).or acc) none
theorem Ym(l:List Ch)(ls:List (List Ch))(k:By):sa (l::ls) k=(yk l k).or (sa ls k):=rfl
theorem Zx{ls:List (List Ch)}(h:∀ l∈ls,j3 l)(k:By):yk (merged ls) k=sa ls k:=by induction ls with|nil=>rfl|cons l ls ih=>grind [Zl,jaz,zh,Ym]
theorem br{l:List Ch}(h:j3 l)(p:Ch->Bool):j3 (l.filter p):=h.sublist xN
theorem Dd{l:List Ch}(q:By->Bool)(k:By):yk (l.filter (λc=>q c.key)) k=if q k then yk l k else none:=by grind [yk]
theorem Az{ls:List (List Ch)}(h:∀ l∈ls,j3 l)(q:By->Bool):merged (ls.map (λl=>l.filter (λc=>q c.key)))=(merged ls).filter (λc=>q c.key):=by
 refine Wj (zh _) (br (zh _) _) λk=>?_
 rw[Dd q,Zx h,Zx (λl hl=>by grind [br])];induction ls with|nil=>simp[sa]|cons l ls ih=>rw[xO,Ym,Ym,ih (λx hx=>h x<|xJ _ hx),Dd q];cases q k<;>simp
structure Source where
 entries:List Ch
 age:Nat
def Source.top(s:Source):By:=(s.entries.head?.map Ch.key).getD []
def Source.less(a b:Source):Bool:=decide (a.top<b.top)||(decide (a.top=b.top)&&decide (a.age<b.age))
theorem Source.F8(a:Source):a.less a=false:=by grind [Source.less]
theorem Source.jam{a b c:Source}(h:a.less b=true)(k:b.less c=true):a.less c=true:=by grind [Source.less]
def Source.le(a b:Source):Prop:=b.less a=false
theorem Source.le_refl(a:Source):a.le a:=a.F8
theorem Source.Bp{a b:Source}(h:a.less b=true):a.le b:=by grind [Source.le,Source.jam,Source.F8]
theorem Source.le_trans{a b c:Source}(h:a.le b)(k:b.le c):a.le c:=by grind [Source.le,Source.less]
def Ql(l:List Source)(n:Nat):Prop:=∀(j:Nat) (a b:Source),0<j->j<n->l[(j-1)/2]?=some a->l[j]?=some b->a.le b
structure ow(l:List Source)(j:Nat):Prop where
 other:∀(k:Nat) (a b:Source),0<k->k≠j->l[(k-1)/2]?=some a->l[k]?=some b->a.le b
 below:∀(k:Nat) (a b:Source),0<k->0<j->(k-1)/2=j->l[(j-1)/2]?=some a->l[k]?=some b->a.le b
theorem Hd{l:List Source}{a b:Source}(hi:i<l.length)(d:j<l.length)(c:i≠j)(k:Nat):((l.set i b).set j a)[k]?=if k=j then some a else if k=i then some b else l[k]?:=by grind
theorem oi{l:List Source}{a:Source}(h:l[i]?=some a):i<l.length:=(ZT.1 h).1
theorem swap_perm{l:List Source}{a b:Source}(d:l[i]?=some a)(c:l[j]?=some b):((l.set i b).set j a).Perm l:=by grind [List.set_set_perm]
theorem ow.start{l:List Source}{x:Source}(h:Ql l l.length):ow (l++[x]) l.length:=by refine⟨λk a b h0 hk ha hb=>?_,λk a b h0 h1 hk ha hb=>?_⟩;have c:=oi hb;simp at c;rw[List.getElem?_append_left zC] at ha hb;exact h k a b h0 zC ha hb;grind
theorem ow.done{l:List Source}(h:ow l j)(f:j=0\/∃ a b,l[(j-1)/2]?=some a/\l[j]?=some b/\b.less a=false):Ql l l.length:=by intro k a b n o i g;by_cases e:k=j;subst e;obtain f|⟨x,y,d,c,m⟩:=f;omega;rw[i] at d;cases d;rw[g] at c;cases c;exact m;exact h.other k a b n e i g
theorem ow.step{l:List Source}{a b:Source}(h:ow l j)(o:0<j)(d:l[(j-1)/2]?=some a)(p:l[j]?=some b)(n:b.less a=true):ow ((l.set ((j-1)/2) b).set j a) ((j-1)/2):=by have g:=oi d;have f:=oi p;have c:(j-1)/2≠j:=zC;have m:=Source.Bp n;refine⟨λk x y h0 hk hx hy=>?_,λk x y h0 h1 hk hx hy=>?_⟩;rw[Hd g f c] at hx hy;by_cases e1:k=j;simp_all;rw[if_neg e1,if_neg hk] at hy;by_cases e2:(k-1)/2=j;rw[if_pos e2] at hx;cases hx;exact h.below k _ y h0 o e2 d hy;rw[if_neg e2] at hx;by_cases e3:(k-1)/2=(j-1)/2;rw[if_pos e3] at hx;cases hx;exact Source.le_trans m<|h.other k a y h0 e1 (e3▸d) hy;rw[if_neg e3] at hx;exact h.other k x y h0 e1 hx hy;rw[Hd g f c] at hx hy;rw[if_neg zC,if_neg zC] at hx;have i:=h.other _ _ _ h1 c hx d;by_cases e1:k=j;simp_all;rw[if_neg e1,if_neg zC] at hy;exact Source.le_trans i<|h.other k a y h0 e1 (hk▸d) hy
structure Qx(l:List Source)(i n:Nat):Prop where
 other:∀(k:Nat) (a b:Source),0<k->k<n->(k-1)/2≠i->l[(k-1)/2]?=some a->l[k]?=some b->a.le b
 below:∀(k:Nat) (a b:Source),0<k->k<n->0<i->(k-1)/2=i->l[(i-1)/2]?=some a->l[k]?=some b->a.le b
theorem Qx.start{l:List Source}{x:Source}(h:Ql l n):Qx (l.set 0 x) 0 n:=by refine⟨λk a b h0 hk hne ha hb=>?_,λk a b h0 hk hi _ _ _=>zC⟩;rw[XH zC] at ha hb;exact h k a b h0 hk ha hb
theorem Qx.none{l:List Source}(h:Qx l i n)(j:n<=2*i+1):Ql l n:=by intro k a b g c f d;exact h.other k a b g c zC f d
theorem Qx.done{l:List Source}{a b:Source}(h:Qx l i n)(s:j=2*i+1\/j=2*i+2)(r:j<n)(p:l[i]?=some a)(t:l[j]?=some b)(o:b.less a=false)(m:∀ k c,(k=2*i+1\/k=2*i+2)->k<n->l[k]?=some c->b.le c):Ql l n:=by intro k x y q g d f;by_cases e:(k-1)/2=i;rw[e,p] at d;cases d;exact Source.le_trans (b:=b) o<|m k y zC g f;exact h.other k x y q g e d f
theorem Qx.step{l:List Source}{a b:Source}(h:Qx l i n)(t:j=2*i+1\/j=2*i+2)(o:j<n)(q:l[i]?=some a)(m:l[j]?=some b)(p:b.less a=true)(s:∀ k c,(k=2*i+1\/k=2*i+2)->k<n->l[k]?=some c->b.le c):Qx ((l.set i b).set j a) j n:=by have g:=oi q;have f:=oi m;have d:i≠j:=zC;have r:=Source.Bp p;refine⟨λk x y h0 hk hkj hx hy=>?_,λk x y h0 hk h1 hkj hx hy=>?_⟩;rw[Hd g f d] at hx hy;rw[if_neg hkj] at hx;by_cases e1:(k-1)/2=i;grind;rw[if_neg e1] at hx;by_cases e2:k=j;omega;rw[if_neg e2] at hy;by_cases e3:k=i;rw[if_pos e3] at hy;cases hy;subst e3;exact h.below j x b zC o h0 zC hx m;rw[if_neg e3] at hy;exact h.other k x y h0 hk e1 hx hy;rw[Hd g f d] at hx hy;rw[if_neg zC,if_pos zC] at hx;cases hx;rw[if_neg zC,if_neg zC] at hy;exact h.other k b y h0 hk zC (hkj▸m) hy
theorem Ql.top{s:Source}{r:List Source}(h:Ql (s::r) (s::r).length):∀ t∈s::r,s.le t:=by
 have H:∀(n k:Nat) (t:Source),k<=n->(s::r)[k]?=some t->s.le t:=by intro n;induction n with|zero=>grind [Source.le_refl]|succ n ih=>intro k t f b;by_cases h0:k=0;grind;have c:=oi b;obtain⟨a,d⟩:∃ a,(s::r)[(k-1)/2]?=some a:=⟨_,XG zC⟩;exact Source.le_trans (ih _ a zC d)<|h k a t zC c d b
 intro t b;obtain⟨k,f,e⟩:=XM b;exact H k k t (zR _) zF
structure vz(hs:List Source)(last:List UInt8):Prop where
 some:∀ s∈hs,s.entries≠[]
 rising:∀ s∈hs,j3 s.entries
 jlj:hs.Pairwise (λs t=>s.age≠t.age)
 keys:∀ s∈hs,∀ c∈s.entries,¬c.key<last
structure ai(hs:List Source)(last:List UInt8)(L:List Ch):Prop where
 rising:j3 L
 behind:∀ c∈L,last<c.key
 has:∀ k c,last<k->(yk L k=Option.some c↔∃ s∈hs,yk s.entries k=Option.some c/\∀ t∈hs,t.age<s.age->yk t.entries k=none)
theorem vz.perm{b c:List Source}{last:By}(h:vz b last)(p:b.Perm c):vz c last:=⟨λs hs'=>h.some s<|p.mem_iff.2 hs',λs hs'=>h.rising s<|p.mem_iff.2 hs',(p.pairwise_iff λe=>Ne.symm e).1 h.jlj,λs hs'=>h.keys s<|p.mem_iff.2 hs'⟩
theorem ai.perm{b d:List Source}{last:By}{L:List Ch}(h:ai b last L)(p:b.Perm d):ai d last L:=by refine⟨h.rising,h.behind,λk c hk=>(h.has k c hk).trans ?_⟩;grind
def taken(s:Source)(r:List Source):List Source:=if s.entries.tail=[] then r else⟨s.entries.tail,s.age⟩::r
theorem R6{s:Source}{c:Ch}{q:List Ch}(h:s.entries=c::q):s.top=c.key:=by simp[Source.top,h]
theorem vz.next{s:Source}{r:List Source}{last:By}{c:Ch}{q:List Ch}(h:vz (s::r) last)(m:s.entries=c::q)(n:∀ t∈s::r,s.le t):vz (taken s r) c.key/\vz (taken s r) last:=by
 have g:j3 s.entries:=h.rising s xW;rw[m] at g;unfold j3 at g;rw[xP] at g;have k:=h.jlj;rw[xP] at k;have j:∀ t∈r,∀ x∈t.entries,¬x.key<c.key:=by intro t b x f o;have i:s.le t:=n t<|xJ _ b;unfold Source.le Source.less at i;simp only[Bool.or_eq_false_iff,decide_eq_false_iff_not] at i;have u:j3 t.entries:=h.rising t<|xJ _ b;cases he:t.entries with|nil=>rw[he] at f;cases f|cons y z=>grind [R6,j3,xP]
 have d:∀ K,(∀ t∈r,∀ x∈t.entries,¬x.key<K)->(∀ x∈q,¬x.key<K)->vz (taken s r) K:=by intro K l p;unfold taken;split;exact⟨λt b=>h.some t<|xJ _ b,λt b=>h.rising t<|xJ _ b,k.2,l⟩;· rename_i hne;refine⟨λt b=>?_,λt b=>?_,xP.2 ⟨k.1,k.2⟩,λt b=>?_⟩;(all_goals obtain rfl|b:=xB.1 b);exact hne;exact h.some t<|xJ _ b;rw[m];exact g.2;exact h.rising t<|xJ _ b;simp_all;exact l t b
 refine⟨d _ j λx f=>jjh<|g.1 x f,d _ (λt b=>h.keys t<|xJ _ b) λx f=>h.keys s xW x zG⟩
theorem Na{s:Source}{r:List Source}{c:Ch}{q:List Ch}(b:s.entries=c::q)(d:c.key≠k)(x:Ch):(∃ t∈taken s r,yk t.entries k=some x/\∀ u∈taken s r,u.age<t.age->yk u.entries k=none)↔(∃ t∈s::r,yk t.entries k=some x/\∀ u∈s::r,u.age<t.age->yk u.entries k=none):=by grind [yk,taken,xW]
theorem ai.again{s:Source}{r:List Source}{last:By}{c:Ch}{q L:List Ch}(h:ai (s::r) last L)(b:s.entries=c::q)(d:c.key=last):ai (taken s r) last L:=by refine⟨h.rising,h.behind,λk x hk=>?_⟩;rw[h.has k x hk,Na b (λe=>jaq hk<|d.symm.trans e)]
theorem ai.next{s:Source}{r:List Source}{last:By}{c:Ch}{q L:List Ch}(F:vz (s::r) last)(h:ai (s::r) last L)(o:s.entries=c::q)(p:∀ t∈s::r,s.le t)(v:c.key≠last):last<c.key/\∃ M,L=c::M/\ai (taken s r) c.key M:=by
 have d:last<c.key:=by rcases Nw last c.key with b|b|b;exact b;exact(v b.symm).elim;exact(F.keys s xW c zG b).elim
 have l:yk L c.key=some c:=by rw[h.has _ _ d];refine⟨s,xW,by grind [J4],λt m hage=>?_⟩;cases he:yk t.entries c.key with|none=>rfl|some x=>have f:=Ag he;have n:=jd4 he;have C:=p t m;have g:=F.rising t m;cases he2:t.entries with|nil=>rw[he2] at f;cases f|cons y z=>grind [Source.le,Source.less,R6,j3,xP]
 have Fn:=(F.next o p).1;have u:∀ x∈L,¬x.key<c.key:=by intro x f j;obtain⟨t,m,b,_⟩:=(h.has x.key x<|h.behind x f).1<|r8 h.rising f;have i:=Ag b;rcases xB.1 m with rfl|B;rw[o] at i;have D:j3 t.entries:=F.rising t xW;grind [j3,xP];(have:t∈taken s r:=by grind [taken]);exact Fn.keys t this x i j
 refine⟨d,?_⟩;cases L with|nil=>cases l|cons y M=>have g:=h.rising;unfold j3 at g;rw[xP] at g;(have A:y=c:=by grind [Ag]);subst A;refine⟨M,rfl,g.2,g.1,λk x n=>?_⟩;rw[Na o (jaq n),<-h.has k x (XL d n),J4,if_neg (jaq n)]
theorem ai.nil{last:By}{L:List Ch}(h:ai [] last L):L=[]:=by cases L with|nil=>rfl|cons x r=>obtain⟨s,b,_⟩:=(h.has x.key x<|h.behind x xW).1<|r8 h.rising xW;cases b
def qn:Nat->List (List Ch)->List Source
 | _,[]=>[]
 | n,l::ls=>if l=[] then qn (n+1) ls else⟨l,n⟩::qn (n+1) ls
theorem du{ls:List (List Ch)}:∀ s∈qn n ls,n<=s.age:=by induction ls generalizing n with|nil=>intro s b;cases b|cons l ls ih=>grind [qn]
theorem On{ls:List (List Ch)}(h:∀ l∈ls,j3 l):vz (qn n ls) []:=by induction ls generalizing n with|nil=>exact⟨λs b=>(by cases b),λs b=>(by cases b),List.Pairwise.nil,λs b=>(by cases b)⟩|cons l ls ih=>(have I:=ih (n:=n+1) λx hx=>h x<|xJ _ hx);unfold qn;split;exact I;rename_i hne;refine⟨λs b=>?_,λs b=>?_,xP.2 ⟨λt ht=>?_,I.jlj⟩,λs b c hc hlt=>List.not_lt_nil _ hlt⟩;obtain rfl|b:=xB.1 b;exact hne;exact I.some s b;obtain rfl|b:=xB.1 b;exact h l xW;exact I.rising s b;have:=du t ht;show n≠t.age;omega
theorem Aq{ls:List (List Ch)}(k:By)(c:Ch):sa ls k=some c↔∃ s∈qn n ls,yk s.entries k=some c/\∀ t∈qn n ls,t.age<s.age->yk t.entries k=none:=by induction ls generalizing n with|nil=>simp[sa,qn]|cons l ls ih=>rw[Ym];unfold qn;split;rename_i hl;rw[hl];show((none:Option Ch).or _)=_↔_;rw[Option.none_or];exact ih;cases hg:yk l k with|some x=>rw[Option.some_or];constructor;intro e;cases e;refine⟨⟨l,n⟩,xW,hg,λt b hlt=>?_⟩;rcases xB.1 b with rfl|b;omega;have:=du t b;grind;grind [du,xW]|none=>rw[Option.none_or,ih (n:=n+1)];simp_all
theorem Om{ls:List (List Ch)}(h:∀ l∈ls,j3 l)(g:∀ l∈ls,∀ c∈l,c.key≠[]):ai (qn n ls) [] (merged ls):=by
 refine⟨zh ls,λc hc=>?_,λk c _=>?_⟩;have j:=r8 (zh ls) hc;rw[Zx h,Aq (n:=n)] at j;obtain⟨s,m,i,d⟩:=j;clear d;have:∃ l∈ls,s.entries=l:=by clear i h g hc;induction ls generalizing n with|nil=>cases m|cons l ls ih=>grind [qn]
 obtain⟨l,o,e⟩:=this;have f:=g l o c (e▸Ag i);cases hkc:c.key with|nil=>exact(f hkc).elim|cons a b=>exact List.nil_lt_cons _ _
 rw[Zx h];exact Aq k c
def chunks:List Ch->List (List Ch)
 | []=>[]
 | a::b::c::d::r=>[a,b,c,d]::chunks r
 | l=>[l]
def jr(b:List Ch):By:=frame (big b.length 1++b.flatMap entry)
def yw(b:List Ch):By:=(b.head?.map Ch.key).getD []
def xd(p:Nat×By):By:=big p.1 4++text p.2
def jy:Nat->List (List Ch)->List (Nat×List UInt8)
 | _,[]=>[]
 | n,b::r=>(n,yw b)::jy (n+(jr b).length) r
def Qa(bl:List (List Ch)):By:=bl.flatMap jr++frame (big bl.length 2++(jy 0 bl).flatMap xd)++big (bl.flatMap jr).length 4
def jn(l:List Ch):By:=Qa (chunks l)
theorem Qd(l:List Ch):(chunks l).flatten=l:=by induction l using chunks.induct with|case1=>rfl|case2 a b c d r ih=>rw[chunks];simp[ih]|case3 l h1 h2=>grind [chunks]
theorem Bx{l:List Ch}:chunks l=[]↔l=[]:=by constructor;grind [Qd];intro h;rw[h];rfl
theorem sj{l b:List Ch}(h:b∈chunks l):1<=b.length/\b.length<=4:=by induction l using chunks.induct with|case1=>cases h|case2 a b' c d r ih=>rw[chunks] at h;rcases xB.1 h with rfl|h;simp;exact ih h|case3 l h1 h2=>rw[chunks] at h;rw[zW] at h;subst h;(match b,h1,h2 with|[],h1,_=>exact(h1 rfl).elim|[a],_,_=>simp|[a,b],_,_=>simp|[a,b,c],_,_=>simp|a::b::c::d::r,_,h2=>exact(h2 a b c d r rfl).elim);exact h1;exact h2
theorem B5{l b:List Ch}(h:b∈chunks l):∀ c∈b,c∈l:=by grind [Qd,List.mem_flatten]
theorem lq{l:List Ch}(h:l≠[]):chunks l=l.take 4::chunks (l.drop 4):=by match l,h with|[],h=>exact(h rfl).elim|[a],_=>rfl|[a,b],_=>rfl|[a,b,c],_=>rfl|a::b::c::d::r,_=>rw[chunks];simp
theorem Y2(l:List Ch):(chunks l).length=(l.length+3)/4:=by induction l using chunks.induct with|case1=>rfl|case2 a b c d r ih=>rw[chunks];simp[ih];omega|case3 l h1 h2=>match l,h1,h2 with|[],h1,_=>exact(h1 rfl).elim|[a],_,_=>simp[chunks]|[a,b],_,_=>simp[chunks]|[a,b,c],_,_=>simp[chunks]|a::b::c::d::r,_,h2=>exact(h2 a b c d r rfl).elim
def Ji(footer:Nat)(l:List UInt8):Option ((Nat×List UInt8)×List UInt8) :=
 if 4<=l.length/\number (l.take 4)<=footer then
  match yb (l.drop 4)with
  | some (t,q)=>some ((number (l.take 4),t),q)
  | none=>none
 else none
def xz(footer:Nat):Nat->List UInt8->Option (List (Nat×List UInt8)×List UInt8)
 | 0,l=>some ([],l)
 | n+1,l =>
  match Ji footer l with
  | none=>none
  | some (p,r) =>
   match xz footer n r with
   | none=>none
   | some (ps,q)=>some (p::ps,q)
def Q5(ps:List (Nat×By)):Bool:=decide ((ps.head?.map Prod.fst)=some 0)&&decide (ps.Pairwise (λa b=>a.1<=b.1))
def J2(footer:Nat)(l:List UInt8):Option (List (Nat×List UInt8)) :=
 if 2<=l.length/\number (l.take 2)≠0 then
  match xz footer (number (l.take 2)) (l.drop 2)with
  | some (ps,[])=>if Q5 ps then some ps else none
  | _=>none
 else none
def Qu(b:List UInt8):Option (Nat×List (Nat×List UInt8)) :=
 if 4<=b.length/\number (b.drop (b.length-4))<=b.length-4 then
  match qk ((b.take (b.length-4)).drop (number (b.drop (b.length-4))))with
  | some (h,[]) =>
   match J2 (number (b.drop (b.length-4))) h with
   | some ps=>some (number (b.drop (b.length-4)),ps)
   | none=>none
  | _=>none
 else none
def J7(footer:Nat)(ps:List (Nat×By))(i:Nat):Nat:=((ps[i+1]?).map Prod.fst).getD footer
def Xa(ps:List (Nat×By))(i:Nat):Nat:=((ps[i]?).map Prod.fst).getD 0
def keyOf(ps:List (Nat×By))(i:Nat):By:=((ps[i]?).map Prod.snd).getD []
def Yl(b:List Ch):By:=(b.getLast?.map Ch.key).getD []
def fits(ps:List (Nat×By))(i:Nat)(es:List Ch):Bool :=
 decide (yw es=keyOf ps i)&&decide (es.Pairwise (λa b=>a.key<b.key))&&(decide (i+1=ps.length)||(decide (es.length=4)&&decide (Yl es<keyOf ps (i+1))))
def J8(b:List UInt8)(footer:Nat)(ps:List (Nat×List UInt8))(i:Nat):Option (List Ch) :=
 match qk ((b.take (J7 footer ps i)).drop (Xa ps i))with
 | some (h,[]) =>
  match zj 4 h with
  | some es=>if fits ps i es then some es else none
  | none=>none
 | _=>none
theorem zg(n:Nat)(bl:List (List Ch)):(jy n bl).length=bl.length:=by induction bl generalizing n with|nil=>rfl|cons b r ih=>simp[jy,ih]
theorem z8(n:Nat)(bl:List (List Ch))(i:Nat):(jy n bl)[i]?=(bl[i]?).map (λb=>(n+((bl.take i).flatMap jr).length,yw b)):=by induction bl generalizing n i with|nil=>simp[jy]|cons b r ih=>cases i with|zero=>simp[jy]|succ i=>grind [jy]
theorem Cw(n:Nat)(bl:List (List Ch)):∀ p∈jy n bl,n<=p.1/\p.1<=n+(bl.flatMap jr).length:=by intro p b;obtain⟨i,hi,e⟩:=XM b;have h:=z8 n bl i;grind [ZY]
theorem I4(n:Nat)(bl:List (List Ch)):(jy n bl).Pairwise (λa b=>a.1<=b.1):=by induction bl generalizing n with|nil=>exact List.Pairwise.nil|cons b r ih=>refine xP.2 ⟨λp hp=>?_,ih _⟩;have:=(Cw _ _ p hp).1;show n<=p.1;omega
theorem Ht(f:p.1<=F)(d:p.1<256^4)(c:p.2.length<256)(q:By):Ji F (xd p++q)=some (p,q):=by
 have b:(big p.1 4).length=4:=jk _ _;have i:(xd p++q).take 4=big p.1 4:=by grind [xd]
 have g:(xd p++q).drop 4=text p.2++q:=by grind [xd]
 grind [Ji,J3,Am]
theorem Gq(h:∀ p∈ps,p.1<=F/\p.1<256^4/\p.2.length<256)(q:By):xz F ps.length (ps.flatMap xd++q)=some (ps,q):=by induction ps with|nil=>simp[xz]|cons p r ih=>obtain⟨d,c,b⟩:=h p xW;rw[zZ,xz,List.flatMap_cons,XB,Ht d c b];simp_all
structure Laid(bl:List (List Ch)):Prop where
 ne:bl≠[]
 len:∀ b∈bl,1<=b.length/\b.length<=4
 full:∀(i:Nat) (b:List Ch),i+1<bl.length->bl[i]?=some b->b.length=4
 ok:∀ b∈bl,∀ c∈b,allowed c=true
 rising:j3 bl.flatten
 small:(bl.flatMap jr).length<256^4/\bl.length<65536
theorem Dg{b:List Ch}(h:∀ c∈b,allowed c=true):(yw b).length<256:=by cases b with|nil=>simp[yw]|cons c r=>have:=(yn c).1<|h c xW;show c.key.length<256;omega
theorem Laid.places{bl:List (List Ch)}(h:Laid bl):J2 (bl.flatMap jr).length (big bl.length 2++(jy 0 bl).flatMap xd)=some (jy 0 bl):=by
 have f:(big bl.length 2).length=2:=jk _ _;have l:(big bl.length 2++(jy 0 bl).flatMap xd).take 2=big bl.length 2:=zG;have k:(big bl.length 2++(jy 0 bl).flatMap xd).drop 2=(jy 0 bl).flatMap xd:=zG;have d:bl.length≠0:=λe=>h.ne<|ZH e
 have j:xz (bl.flatMap jr).length bl.length ((jy 0 bl).flatMap xd)=some (jy 0 bl,[]):=by have:=Gq (F:=(bl.flatMap jr).length) (ps:=jy 0 bl) (λp hp=>?_) [];grind [zg];have n:=(Cw 0 bl p hp).2;have m:=h.small.1;refine⟨zC,zC,?_⟩;obtain⟨i,hi,e⟩:=XM hp;have c:=z8 0 bl i;rw[XG hi,e] at c;rw[zg] at hi;rw[XG hi] at c;cases c;exact Dg<|h.ok _<|xI hi
 have g:Q5 (jy 0 bl)=true:=by unfold Q5;rw[XJ];refine⟨?_,by grind [I4]⟩;cases bl with|nil=>exact(h.ne rfl).elim|cons b r=>simp[jy]
 unfold J2;rw[l,k,J3 _ _ h.small.2,if_pos ⟨by simp[f],d⟩,j];simp only[g,if_true]
theorem Cx:(xd p).length=5+p.2.length:=by simp[xd,text,jk];omega
theorem Re{bl:List (List Ch)}(h:Laid bl):(big bl.length 2++(jy 0 bl).flatMap xd).length<256^4:=by
 have H:∀(ps:List (Nat×By)),(∀ p∈ps,p.2.length<256)->(ps.flatMap xd).length<=261*ps.length:=by intro ps;induction ps with|nil=>simp|cons p r ih=>grind [Cx]
 have c:=H (jy 0 bl) (λp hp=>by obtain⟨i,hi,e⟩:=XM hp;have b:=z8 0 bl i;rw[XG hi,e] at b;rw[zg] at hi;rw[XG hi] at b;cases b;exact Dg<|h.ok _<|xI hi);rw[zg] at c;have d:=h.small.2;grind [jk]
theorem Laid.read{bl:List (List Ch)}(h:Laid bl):Qu (Qa bl)=some ((bl.flatMap jr).length,jy 0 bl):=by
 generalize hB:bl.flatMap jr=B;generalize hf:frame (big bl.length 2++(jy 0 bl).flatMap xd)=f;have d:Qa bl=B++f++big B.length 4:=by unfold Qa;rw[hB,hf]
 have g:(big B.length 4).length=4:=jk _ _;have l:(Qa bl).length=B.length+f.length+4:=by rw[d];simp[g];omega
 have b:=h.small.1;rw[hB] at b;have k:(Qa bl).drop ((Qa bl).length-4)=big B.length 4:=zG;have j:(Qa bl).take ((Qa bl).length-4)=B++f:=zF;have i:qk f=some (big bl.length 2++(jy 0 bl).flatMap xd,[]):=by grind [Y5,Re]
 have c:=h.places;rw[hB] at c;unfold Qu;rw[k,j,J3 _ _ b,if_pos ⟨zC,zC⟩,List.drop_left,i];simp only[c]
theorem Vk{b:List Ch}(d:b.length<=4)(h:∀ c∈b,allowed c=true):(big b.length 1++b.flatMap entry).length<256^4:=by grind [Jy,jk]
theorem S0{bl:List (List Ch)}(h:j3 bl.flatten){b:List Ch}(c:b∈bl):j3 b:=h.sublist<|List.sublist_flatten_of_mem c
theorem Laid.block{bl:List (List Ch)}(h:Laid bl){b:List Ch}(j:bl[i]?=some b):J8 (Qa bl) (bl.flatMap jr).length (jy 0 bl) i=some b:=by
 have hi:i<bl.length:=(ZT.1 j).1;have d:b∈bl:=XF j;have o:bl=bl.take i++b::bl.drop (i+1):=by grind [xC,ZY]
 have r:Xa (jy 0 bl) i=((bl.take i).flatMap jr).length:=by grind [Xa,z8]
 have es:J7 (bl.flatMap jr).length (jy 0 bl) i=((bl.take i).flatMap jr).length+(jr b).length:=by(have e:((bl.take (i+1)).flatMap jr).length=((bl.take i).flatMap jr).length+(jr b).length:=zF);unfold J7;rw[z8];cases h2:bl[i+1]? with|some x=>grind|none=>grind
 have v:((Qa bl).take (((bl.take i).flatMap jr).length+(jr b).length)).drop ((bl.take i).flatMap jr).length=jr b:=by(have e:Qa bl=((bl.take i).flatMap jr++jr b)++((bl.drop (i+1)).flatMap jr++frame (big bl.length 2++(jy 0 bl).flatMap xd)++big (bl.flatMap jr).length 4):=by grind [Qa]);grind [List.drop_left]
 have u:qk (jr b)=some (big b.length 1++b.flatMap entry,[]):=by have:=Y5 (big b.length 1++b.flatMap entry) []<|Vk (h.len b d).2<|h.ok b d;rwa [ZU] at this
 have t:=nu (h.len b d).1 (h.len b d).2 zC<|h.ok b d;have s:fits (jy 0 bl) i b=true:=by unfold fits;rw[XJ,XJ];refine⟨⟨?_,by simpa [j3] using S0 h.rising d⟩,?_⟩;simp[keyOf,z8,j];rw[zg];by_cases hlast:i+1=bl.length;simp[hlast];rw[Bool.or_eq_true];refine .inr ?_;rw[XJ];refine⟨by simpa using h.full i b zC j,?_⟩;obtain⟨x,n⟩:∃ x,bl[i+1]?=some x:=⟨_,XG zC⟩;have l:x∈bl:=XF n;(have p:keyOf (jy 0 bl) (i+1)=yw x:=by simp[keyOf,z8,n]);rw[p];(have m:bl.drop (i+1)=x::bl.drop (i+2):=by grind [xC]);have k:=h.rising;rw[o,m] at k;cases hxe:x with|nil=>have:=(h.len x l).1;rw[hxe] at this;simp at this|cons c y=>have f:=(h.len b d).1;(have g:b≠[]:=λe=>by rw[e] at f;simp at f);(have q:Yl b=(b.getLast g).key:=by grind [Yl]);rw[q];unfold j3 at k;rw[List.flatten_append,List.flatten_cons,List.flatten_cons,List.pairwise_append] at k;grind [yw]
 grind [J8]
theorem Ve(l:List Ch):∀(i:Nat) (b:List Ch),i+1<(chunks l).length->(chunks l)[i]?=some b->b.length=4:=by induction l using chunks.induct with|case1=>grind [chunks]|case2 a b' c d r ih=>grind [chunks]|case3 l h1 h2=>grind [chunks]
theorem Ul{l:List Ch}(f:l≠[])(d:∀ c∈l,allowed c=true)(i:j3 l)(g:((chunks l).flatMap jr).length<256^4)(j:l.length<262140):Laid (chunks l):=⟨λe=>f<|Bx.1 e,λb hb=>sj hb,Ve l,λb hb c hc=>d c<|B5 hb c hc,by rw[Qd];exact i,g,by rw[Y2];omega⟩
def ahead(ps:List (Nat×By))(k:By):Nat:=(ps.takeWhile (λp=>decide (p.2<k))).length
def Yr(ps:List (Nat×By))(k:By):Nat :=
 if (ps[ahead ps k]?).map Prod.snd=some k then ahead ps k else ahead ps k-1
def qh(k:By)(c:Ch):Bool:=decide (¬c.key<k)
def Lr(ps:List (Nat×By))(k:By):Prop:=∀ i p,ahead ps k<=i->ps[i]?=some p->¬p.2<k
theorem vv(ps:List (Nat×By))(k:By):ahead ps k<=ps.length:=by have:=(List.takeWhile_sublist (λp:Nat×By=>decide (p.2<k)) (l:=ps)).length_le;exact this
theorem Lo(h:i<ahead ps k)(b:ps[i]?=some p):p.2<k:=by unfold ahead at h;induction ps generalizing i with|nil=>simp at h|cons x r ih=>by_cases hx:x.2<k;grind [List.takeWhile_cons_of_pos];simp_all
theorem jen(b:ps[ahead ps k]?=some p):¬p.2<k:=by unfold ahead at b;induction ps with|nil=>simp at b|cons x r ih=>by_cases hx:x.2<k;simp_all;simp_all
theorem Wz(ps:List (Nat×By)):Lr ps []:=λi p _ _ h=>List.not_lt_nil _ h
theorem jeo(ps:List (Nat×By)):ahead ps []=0:=by cases h:ahead ps [] with|zero=>rfl|succ n=>have b:=vv ps [];exact(List.not_lt_nil _<|Lo (ps:=ps) (k:=[]) (i:=0) zC<|XG zC).elim
theorem jfb(ps:List (Nat×By)):Yr ps []=0:=by grind [Yr,jeo]
theorem Laid.order{bl:List (List Ch)}(h:Laid bl){a b:List Ch}(k:bl[i]?=some a)(g:bl[j]?=some b)(l:i<j):∀ x∈a,∀ y∈b,x.key<y.key:=by have m:=(ZT.1 g).1;have c:=h.rising;rw[<-ZY (i+1) bl,List.flatten_append] at c;unfold j3 at c;rw[List.pairwise_append] at c;intro x f y d;refine c.2.2 x (List.mem_flatten.2 ⟨a,?_,f⟩) y<|List.mem_flatten.2 ⟨b,?_,d⟩;rw[zX,k];simp;refine XF (i:=j-(i+1)) ?_;grind
theorem Zz{b:List Ch}(h:1<=b.length):∃ c∈b,yw b=c.key:=by cases b with|nil=>simp at h|cons c r=>exact⟨c,xW,rfl⟩
theorem Laid.jkz{bl:List (List Ch)}(h:Laid bl)(k:By):Lr (jy 0 bl) k:=by intro i p hi f;have c:i<(jy 0 bl).length:=(ZT.1 f).1;have b:ahead (jy 0 bl) k<(jy 0 bl).length:=zC;obtain⟨q,d⟩:∃ q,(jy 0 bl)[ahead (jy 0 bl) k]?=some q:=⟨_,XG b⟩;have m:=jen d;by_cases e:ahead (jy 0 bl) k=i;simp_all;intro l;rw[zg] at c b;rw[z8,XG b] at d;rw[z8,XG c] at f;cases d;cases f;obtain⟨x,j,o⟩:=Zz (h.len _<|xI b).1;obtain⟨y,g,n⟩:=Zz (h.len _<|xI c).1;have:=h.order (XG b) (XG c) zC x j y g;grind
theorem Laid.jim{bl:List (List Ch)}(h:Laid bl)(k:By):∀ c∈(bl.take (Yr (jy 0 bl) k)).flatten,c.key<k:=by
 intro c q;obtain⟨b,r,f⟩:=List.mem_flatten.1 q;obtain⟨j,m,e⟩:=XM r;rw[xD] at m;rw[List.getElem_take] at e;have p:=vv (jy 0 bl) k;rw[zg] at p;have g:bl[j]?=some b:=zF;unfold Yr at m;split at m;rename_i hf;have d:ahead (jy 0 bl) k<bl.length:=by grind [zg]
 rw[z8,XG d] at hf;simp at hf;obtain⟨x,l,o⟩:=Zz (h.len _<|xI d).1;rw[o] at hf;rw[<-hf];exact h.order g (XG d) zC c f x l;have d:ahead (jy 0 bl) k-1<bl.length:=zC;have n:=Lo (ps:=jy 0 bl) (k:=k) (i:=ahead (jy 0 bl) k-1) zC (by rw[z8,XG d];rfl);obtain⟨x,l,o⟩:=Zz (h.len _<|xI d).1;simp only at n;rw[o] at n;exact XL (h.order g (XG d) zC c f x l) n
theorem Laid.from{bl:List (List Ch)}(h:Laid bl)(k:By):((bl.drop (Yr (jy 0 bl) k)).flatten).filter (qh k)=bl.flatten.filter (qh k):=by
 conv=>rhs;rw[<-ZY (Yr (jy 0 bl) k) bl,List.flatten_append,List.filter_append]
 have e:((bl.take (Yr (jy 0 bl) k)).flatten).filter (qh k)=[]:=List.filter_eq_nil_iff.2 (λc hc=>by simpa [qh] using h.jim k c hc)
 rw[e,ZO]
def wz(l:By):Option (Nat×By):=if 8<=l.length/\number (l.take 8)<=2000000000 then some (number (l.take 8),l.drop 8)else none
def qu:Nat->List UInt8->Option (List Nat×List UInt8)
 | 0,l=>some ([],l)
 | n+1,l =>
  match wz l with
  | none=>none
  | some (x,q) =>
   match qu n q with
   | none=>none
   | some (xs,q')=>some (x::xs,q')
theorem fk{xs:List Nat}:qu n l=some (xs,q)↔8*n<=l.length/\xs=zr n l/\q=l.drop (8*n)/\∀ x∈xs,x<=2000000000:=by induction n generalizing l xs q with|zero=>grind [qu,zr]|succ n ih=>unfold qu wz;by_cases hc:8<=l.length/\number (l.take 8)<=2000000000;rw[if_pos hc];simp only;(cases h:qu n (l.drop 8)with|none=>simp only[reduceCtorEq,false_iff];rintro⟨c,rfl,rfl,b⟩;have:qu n (l.drop 8)=some (zr n<|l.drop 8,(l.drop 8).drop (8*n)):=ih.2 ⟨by simp;omega,rfl,rfl,λx hx=>b x<|by grind [zr]⟩;simp_all|some y=>grind [zr,XK]);grind [zr]
def Qz(l:List UInt8):Option Man :=
 match qu 4 l with
 | some ([a,b,c,d],q) =>
  if 2<=q.length then
   match qu (number (q.take 2)) (q.drop 2)with
   | some (rs,[])=>some ⟨a,b,c,d,rs⟩
   | _=>none
  else none
 | _=>none
def jca(l:List UInt8):Option Man :=
 match qk l with
 | some (h,[]) =>
  match Qz h with
  | some m=>if m.Good then some m else none
  | none=>none
 | _=>none
theorem Ax(l:By):zr 4 l=[number (l.take 8),number ((l.drop 8).take 8),number ((l.drop 16).take 8),number ((l.drop 24).take 8)]:=by simp[zr,XK]
theorem tn{h:By}{m:Man}(e:Qz h=some m):34<=h.length/\h.length=34+8*number ((h.drop 32).take 2)/\m=⟨number (h.take 8),number ((h.drop 8).take 8),number ((h.drop 16).take 8),number ((h.drop 24).take 8),zr (number ((h.drop 32).take 2)) (h.drop 34)⟩/\m.next<=2000000000/\m.last<=2000000000:=by unfold Qz at e;cases h4:qu 4 h with|none=>rw[h4] at e;cases e|some y=>obtain⟨xs,q⟩:=y;obtain⟨k,a2,a3,a4⟩:=fk.1 h4;rw[Ax] at a2;subst a2;rw[h4] at e;simp only at e;split at e;rename_i h2;(cases hr:qu (number<|q.take 2) (q.drop 2)with|none=>rw[hr] at e;cases e|some z=>obtain⟨rs,b⟩:=z;rw[hr] at e;cases b with|cons _ _=>cases e|nil=>simp only[Option.some.injEq] at e;obtain⟨j,i,c,g⟩:=fk.1 hr;subst a3;(have f:(h.drop 32).drop 2=h.drop 34:=by rw[XK]);have d:=congrArg List.length c;grind [xW]);cases e
theorem jgm(l:By):jca l=Zr l:=by unfold jca Zr;cases hf:qk l with|none=>rfl|some y=>obtain⟨h,q⟩:=y;cases q with|cons a b=>simp|nil=>simp only[true_and];cases hr:Qz h with|some m=>grind [tn]|none=>simp only;by_cases hc:34<=h.length/\h.length=34+8*number ((h.drop 32).take 2);rw[if_pos hc];by_cases hg:Man.Good ⟨number<|h.take 8,number<|(h.drop 8).take 8,number<|(h.drop 16).take 8,number<|(h.drop 24).take 8,zr (number<|(h.drop 32).take 2)<|h.drop 34⟩;exfalso;obtain⟨k,j,p,o⟩:=hg;simp only at k j;(have c:∀ n∈Man.numbers ⟨number<|h.take 8,number<|(h.drop 8).take 8,number<|(h.drop 16).take 8,number<|(h.drop 24).take 8,zr (number<|(h.drop 32).take 2)<|h.drop 34⟩,n<=2000000000:=λn hn=>zF);have g:=c (number<|(h.drop 16).take 8) (by simp[Man.numbers]);(have f:number ((h.drop 24).take 8)<=2000000000:=by by_cases hb:number ((h.drop 24).take 8)=0;omega;exact c _ (by simp[Man.numbers,Man.settled,hb]));(have d:∀ n∈zr (number<|(h.drop 32).take 2) (h.drop 34),n<=2000000000:=λn hn=>c n (by grind [Man.numbers,Man.settled]));have s:qu 4 h=some ([number (h.take 8),number ((h.drop 8).take 8),number ((h.drop 16).take 8),number ((h.drop 24).take 8)],h.drop 32):=fk.2 ⟨zC,(Ax h).symm,rfl,zF⟩;(have i:(h.drop 32).drop 2=h.drop 34:=by rw[XK]);have r:qu (number<|(h.drop 32).take 2) ((h.drop 32).drop 2)=some (zr (number<|(h.drop 32).take 2)<|h.drop 34,[]):=fk.2 ⟨by simp;omega,by rw[i],zG,d⟩;grind [Qz];rw[if_neg hg];rw[if_neg hc]
