/-
-/
import Derived.ProofKit
set_option linter.all false
namespace Go.Proofs.YtdaocdiabffpkaaGreatDoor
abbrev N_(_:Nat):Prop:=False
abbrev P1(b:Nat):Value:=.pointer (some ⟨b,0,none⟩)
abbrev S5:Value:=.slice none 0 0
abbrev By:=List UInt8
abbrev A2(b:Nat):Addr:=⟨b,0,none⟩
abbrev B1(b o:Nat):Addr:=⟨b,o,none⟩
abbrev aA(n:Int):Value:=.int .i64 n
theorem zR:type_of% @List.take_add_one:=@List.take_add_one
theorem zS:type_of% @List.getElem?_eq_getElem:=@List.getElem?_eq_getElem
theorem zT:type_of% @Nat.zero_le:=@Nat.zero_le
theorem zU:type_of% @World.ownsRow_nil:=@World.ownsRow_nil
theorem zV:type_of% @Nat.lt_or_ge:=@Nat.lt_or_ge
theorem zW:type_of% @Nat.le_trans:=@Nat.le_trans
theorem zX:type_of% @Nat.zero_lt_succ:=@Nat.zero_lt_succ
theorem zY:type_of% @Nat.lt_irrefl:=@Nat.lt_irrefl
theorem zZ:type_of% @Nat.lt_of_lt_of_le:=@Nat.lt_of_lt_of_le
theorem ZA:type_of% @List.length_append:=@List.length_append
theorem ZB:type_of% @List.length_take_le:=@List.length_take_le
theorem ZC:type_of% @List.take_of_length_le:=@List.take_of_length_le
theorem ZD:type_of% @Option.toList_some:=@Option.toList_some
theorem ZE:type_of% @List.append_nil:=@List.append_nil
theorem ZF:type_of% @List.take_append_drop:=@List.take_append_drop
theorem ZG:type_of% @Nat.le_refl:=@Nat.le_refl
theorem ZH:type_of% @Nat.eq_zero_or_pos:=@Nat.eq_zero_or_pos
theorem ZI:type_of% @List.drop_eq_getElem_cons:=@List.drop_eq_getElem_cons
theorem ZJ:type_of% @List.length_singleton:=@List.length_singleton
theorem ZK:type_of% @List.length_filter_le:=@List.length_filter_le
theorem ZL:type_of% @List.getElem_mem:=@List.getElem_mem
theorem ZM:type_of% @List.mem_append:=@List.mem_append
theorem ZN:type_of% @Nat.xor_lt_two_pow:=@Nat.xor_lt_two_pow
theorem ZO:type_of% @Nat.lt_of_le_of_lt:=@Nat.lt_of_le_of_lt
theorem ZP:type_of% @UInt8.toNat_ofNat':=@UInt8.toNat_ofNat'
theorem ZQ:type_of% @List.length_take:=@List.length_take
theorem ZR:type_of% @Bool.and_eq_true:=@Bool.and_eq_true
theorem ZT:type_of% @List.pairwise_iff_getElem:=@List.pairwise_iff_getElem
theorem ZU:type_of% @List.length_drop:=@List.length_drop
theorem ZV:type_of% @Nat.min_eq_left:=@Nat.min_eq_left
theorem ZW:type_of% @List.getElem_cons_drop:=@List.getElem_cons_drop
theorem ZX:type_of% @List.mem_of_getElem?:=@List.mem_of_getElem?
theorem ZY:type_of% @List.getElem?_eq_some_iff:=@List.getElem?_eq_some_iff
theorem ZZ:type_of% @List.size_toArray:=@List.size_toArray
theorem xC:type_of% @List.length_cons:=@List.length_cons
theorem xD:type_of% @List.length_nil:=@List.length_nil
theorem xE:type_of% @Array.replicate_succ:=@Array.replicate_succ
theorem xF:type_of% @Array.replicate_zero:=@Array.replicate_zero
theorem xG:type_of% @List.push_toArray:=@List.push_toArray
theorem xH:type_of% @List.append_toArray:=@List.append_toArray
theorem xI:type_of% @List.nil_append:=@List.nil_append
theorem xJ:type_of% @List.cons_append:=@List.cons_append
theorem xK:type_of% @List.append_assoc:=@List.append_assoc
theorem xL:type_of% @List.map_append:=@List.map_append
theorem xM:type_of% @List.take_length:=@List.take_length
theorem xN:type_of% @List.mem_cons:=@List.mem_cons
theorem xO:type_of% @List.mem_cons_self:=@List.mem_cons_self
theorem xP:type_of% @List.mem_cons_of_mem:=@List.mem_cons_of_mem
theorem xQ:type_of% @List.filter_sublist:=@List.filter_sublist
theorem xR:type_of% @List.mem_map:=@List.mem_map
theorem xS:type_of% @World.size_alloc:=@World.size_alloc
theorem xU:type_of% @Int.toNat_natCast:=@Int.toNat_natCast
theorem xV:type_of% @List.mem_singleton:=@List.mem_singleton
theorem xW:type_of% @Nat.zero_lt_one:=@Nat.zero_lt_one
theorem xX:type_of% @Nat.zero_add:=@Nat.zero_add
theorem xY:type_of% @List.eq_nil_of_length_eq_zero:=@List.eq_nil_of_length_eq_zero
theorem xZ:type_of% @List.take_succ_eq_append_getElem:=@List.take_succ_eq_append_getElem
theorem XA:type_of% @List.map_cons:=@List.map_cons
theorem XB:type_of% @List.mem_filter:=@List.mem_filter
theorem XC:type_of% @List.pairwise_cons:=@List.pairwise_cons
theorem XD:type_of% @List.pairwise_map:=@List.pairwise_map
theorem XE:type_of% @List.map_congr_left:=@List.map_congr_left
theorem XF:type_of% @List.length_map:=@List.length_map
theorem XG:type_of% @List.filter_eq_self:=@List.filter_eq_self
theorem XH:type_of% @List.length_pos_iff:=@List.length_pos_iff
theorem XI:type_of% @List.nodup_cons:=@List.nodup_cons
theorem XJ:type_of% @World.block_lt_of_cell?:=@World.block_lt_of_cell?
theorem XK:type_of% @List.mem_of_mem_drop:=@List.mem_of_mem_drop
theorem XL:type_of% @List.mem_of_mem_take:=@List.mem_of_mem_take
theorem XM:type_of% @List.drop_eq_nil_of_le:=@List.drop_eq_nil_of_le
theorem XO:type_of% @List.drop_drop:=@List.drop_drop
theorem XP:type_of% @Option.map_eq_some_iff:=@Option.map_eq_some_iff
theorem XQ:type_of% @List.mem_append_left:=@List.mem_append_left
theorem XR:type_of% @List.mem_append_right:=@List.mem_append_right
theorem XS:type_of% @List.mem_iff_getElem:=@List.mem_iff_getElem
theorem XT:type_of% @Array.getElem?_eq_getElem:=@Array.getElem?_eq_getElem
theorem XU:type_of% @List.getElem_of_mem:=@List.getElem_of_mem
theorem XV:type_of% @List.length_set:=@List.length_set
theorem XW:type_of% @List.getElem?_set_ne:=@List.getElem?_set_ne
theorem XX:type_of% @Classical.byContradiction:=@Classical.byContradiction
section
variable {p q:Prop}
theorem zC(h:p:=by omega):p:=h
theorem zD(h:p:=by simp):p:=h
theorem zE(h:p:=by decide):p:=h
theorem zF(h:p:=by grind):p:=h
theorem zG(h:p:=by simp_all):p:=h
theorem zA(a:p)(h:p->q:=by omega):q:=h a
theorem zB{r:Prop}(a:p)(b:r)(h:p->r->q:=by omega):q:=h a b
theorem zJ{A:Type}(a:A):∃ c,c=a:=⟨_,rfl⟩
end
end Go.Proofs.YtdaocdiabffpkaaGreatDoor
namespace Go.Proofs.YtdaocdiabffpkaaGreatDoor.Rf
variable {a b k l q r t:List UInt8} {F i j most n num:Nat} {p:Nat×List UInt8} {ps:List (Nat×List UInt8)}
def big(n:Nat):Nat->List UInt8
 | 0=>[]
 | m+1=>big (n/256) m++[UInt8.ofNat (n%256)]
theorem jm(n m:Nat):(big n m).length=m:=by induction m generalizing n with|zero=>rfl|succ m ih=>simp[big,ih]
def qk(n:Nat):By:=if h:n<10 then [UInt8.ofNat (48+n)] else qk (n/10)++[UInt8.ofNat (48+n%10)]
def bit(c:Nat):Nat:=if c%2=1 then(c/2) ^^^ 2197175160 else c/2
def bits:Nat->Nat->Nat
 | 0,c=>c
 | k+1,c=>bits k (bit c)
def Yh(c:Nat)(x:UInt8):Nat:=bits 8 (c ^^^ x.toNat)
def sum(l:By):Nat:=4294967295-l.foldl Yh 4294967295
def frame(l:By):By:=big l.length 4++big (sum l) 4++l
structure Ch where
 key:List UInt8
 value:List UInt8
 gone:Bool
def text(l:By):By:=big l.length 1++l
def entry(c:Ch):By:=if c.gone then 2::text c.key else 1::(text c.key++text c.value)
def ji:Nat->List (List Ch)->List UInt8
 | _,[]=>[]
 | last,b::r=>frame (big (last+1) 8++big b.length 1++b.flatMap entry)++ji (last+1) r
def iu(next last log base:Nat)(runs:List Nat):By:=frame (big next 8++big last 8++big log 8++big base 8++big runs.length 2++runs.flatMap λr=>big r 8)
def number(l:By):Nat:=l.foldl (λn x=>n*256+x.toNat) 0
theorem wg(l:By)(x:UInt8):number (l++[x])=number l*256+x.toNat:=by grind [number]
theorem J2(n m:Nat)(h:n<256^m):number (big n m)=n:=by induction m generalizing n with|zero=>simp at h;subst h;rfl|succ m ih=>grind [big,wg,ZP]
theorem cy(l:By):number l<256^l.length:=by
 have H:∀(l:By) (n:Nat),l.foldl (λn x=>n*256+x.toNat) n<(n+1)*256^l.length:=by
  intro l
  induction l with
  | nil=>intro n;simp
  | cons x r ih =>
   intro n
   have d:x.toNat<256:=x.toNat_lt
   have c:=ih (n*256+x.toNat)
   have b:n*256+x.toNat+1<=(n+1)*256:=by omega
   calc (x::r).foldl (λn x=>n*256+x.toNat) n=r.foldl (λn x=>n*256+x.toNat) (n*256+x.toNat):=rfl
    _<(n*256+x.toNat+1)*256^r.length:=c
    _<=((n+1)*256)*256^r.length:=Nat.mul_le_mul_right _ b
    _=(n+1)*256^(x::r).length:=by grind
 grind [number]
theorem Cs:∀(k:Nat) (l:By),l.length=k->big (number l) k=l:=by
 intro k
 induction k with
 | zero=>intro l c;rw[xY c];rfl
 | succ k ih =>
  intro l c
  have b:l≠[]:=λe=>by rw[e] at c;simp at c
  have e:l=l.dropLast++[l.getLast b]:=(List.dropLast_concat_getLast b).symm
  have d:l.dropLast.length=k:=by simp[c]
  have j:(l.getLast b).toNat<256:=(l.getLast b).toNat_lt
  have f:number l=number l.dropLast*256+(l.getLast b).toNat:=by rw[<-wg,<-e]
  have i:number l/256=number l.dropLast:=by rw[f];omega
  have g:number l%256=(l.getLast b).toNat:=by rw[f];omega
  rw[big,i,g,ih _ d]
  conv=>rhs;rw[e]
  simp
def xu(l:By):Option (By×By) :=
 if 8<=l.length/\8+number (l.take 4)<=l.length/\sum ((l.drop 8).take (number (l.take 4)))=number ((l.drop 4).take 4)then some ((l.drop 8).take (number (l.take 4)),l.drop (8+number (l.take 4)))else none
theorem Cb(l:By):sum l<256^4:=by unfold sum;omega
theorem Xw(l r:By)(h:l.length<256^4):xu (frame l++r)=some (l,r):=by
 have c:(big l.length 4).length=4:=jm _ _;have b:(big (sum l) 4).length=4:=jm _ _;have k:(frame l++r).take 4=big l.length 4:=by grind [frame]
 have j:((frame l++r).drop 4).take 4=big (sum l) 4:=by grind [frame]
 have d:(frame l++r).drop 8=l++r:=by unfold frame;rw[xK];(have:(big l.length 4++big (sum l) 4).length=8:=by simp[c,b]);rw[List.drop_append_of_le_length zC,List.drop_of_length_le zC,xI]
 have i:(frame l++r).length=8+l.length+r.length:=by unfold frame;simp[c,b];omega
 unfold xu;rw[k,j,d,J2 _ _ h,J2 _ _ (Cb l),i];have g:(l++r).take l.length=l:=zD;rw[g];rw[if_pos ⟨zC,zC,rfl⟩];have f:(frame l++r).drop (8+l.length)=r:=by rw[<-XO,d];simp
 rw[f]
theorem Bx(h:xu l=some (b,r)):l=frame b++r:=by unfold xu at h;split at h;grind [frame,Cs,XO,ZF];cases h
def j8(l:List Ch):Prop:=l.Pairwise (λa b=>a.key<b.key)
def ins(c:Ch):List Ch->List Ch
 | []=>[c]
 | x::r=>if c.key<x.key then c::x::r else if x.key=c.key then c::r else x::ins c r
theorem jff{c x:Ch}{l:List Ch}(h:x∈ins c l):x=c\/x∈l:=by induction l with|nil=>simp[ins] at h;exact .inl h|cons y r ih=>grind [ins]
theorem cu{c:Ch}{l:List Ch}(h:j8 l):j8 (ins c l):=by induction l with|nil=>simp[ins,j8]|cons x r ih=>grind [j8,XC,ins,jff]
def Qh(c:Ch)(s:List Ch×Bool)(x:Ch):List Ch×Bool :=
 let s1:=if s.2=false/\¬x.key<c.key then(s.1++[c],true)else s
 if x.key≠c.key then(s1.1++[x],s1.2)else s1
def r9(c:Ch)(s:List Ch×Bool):List Ch:=if s.2=false then s.1++[c] else s.1
def put(l:List Ch)(c:Ch):List Ch:=r9 c (l.foldl (Qh c) ([],false))
theorem Dn{c:Ch}{l b:List Ch}(h:∀ x∈l,x.key≠c.key):l.foldl (Qh c) (b,true)=(b++l,true):=by induction l generalizing b with|nil=>simp|cons x r ih=>grind [xO,Qh]
theorem Wu{c:Ch}{l b:List Ch}(h:j8 l):r9 c (l.foldl (Qh c) (b,false))=b++ins c l:=by induction l generalizing b with|nil=>simp[ins,r9]|cons x r ih=>unfold j8 at h;rw[XC] at h;obtain⟨g,f⟩:=h;rw[List.foldl_cons];unfold ins;by_cases hlt:c.key<x.key;grind [Qh,Dn,r9];rw[if_neg hlt];by_cases he:x.key=c.key;grind [Qh,Dn,r9];rw[if_neg he];(have d:x.key<c.key:=zF);(have e:Qh c (b,false) x=(b++[x],false):=by simp[Qh,d,he]);rw[e,ih f];simp
theorem r8{c:Ch}{l:List Ch}(h:j8 l):put l c=ins c l:=by grind [Wu,put]
def below(l:List Ch)(k:By):Nat:=(l.takeWhile (λx=>decide (x.key<k))).length
def Bt(c:Ch)(l:List Ch):List Ch :=
 if (l[below l c.key]?).map Ch.key=some c.key then l.set (below l c.key) c else l.take (below l c.key)++c::l.drop (below l c.key)
theorem jg9{c:Ch}{l:List Ch}(h:j8 l):Bt c l=ins c l:=by induction l with|nil=>simp[Bt,ins,below]|cons x r ih=>unfold j8 at h;rw[XC] at h;obtain⟨f,d⟩:=h;by_cases hx:x.key<c.key;(· (have b:below (x::r) c.key=below r c.key+1:=by simp[below,hx]);(have e:Bt c (x::r)=x::Bt c r:=by grind [Bt]);rw[e,ih d];grind [ins]);· (have b:below (x::r) c.key=0:=by simp[below,hx]);grind [Bt,ins]
def over(l more:List Ch):List Ch:=more.foldl (λl c=>put l c) l
def there(l:List Ch):List Ch:=l.filter (λc=>!c.gone)
theorem Ql{l more:List Ch}(h:j8 l):j8 (over l more):=by induction more generalizing l with|nil=>exact h|cons c r ih=>have e:over l (c::r)=over (put l c) r:=rfl;grind [r8,cu]
theorem Fp(l more:List Ch)(c:Ch):over l (more++[c])=put (over l more) c:=by simp[over,List.foldl_append]
def memory(bs:List (List Ch)):List Ch:=bs.foldl over []
theorem zv(bs:List (List Ch)):j8 (memory bs):=by
 have H:∀(bs:List (List Ch)) (l:List Ch),j8 l->j8 (bs.foldl over l):=by intro bs;induction bs with|nil=>intro l h;exact h|cons b r ih=>grind [Ql]
 exact H bs [] List.Pairwise.nil
theorem jah(bs:List (List Ch))(b:List Ch):memory (bs++[b])=over (memory bs) b:=by grind [memory]
def yt(l:List Ch)(k:By):Option Ch:=l.find? (λc=>decide (c.key=k))
def Zp(a b:By)(c:Ch):Bool:=decide (¬c.key<a)&&(decide (b=[])||decide (c.key<b))
def Zi(l:List Ch)(a b:By)(most:Nat):List Ch:=((there l).filter (Zp a b)).take most
theorem Co{l:List Ch}(h:j8 l)(k:By):l.drop (below l k)=l.filter (λc=>decide (¬c.key<k)):=by induction l with|nil=>simp[below]|cons x r ih=>unfold j8 at h;rw[XC] at h;by_cases hx:x.key<k;(have b:below (x::r) k=below r k+1:=by simp[below,hx]);rw[b];simp[ih h.2,hx];· (have b:below (x::r) k=0:=by simp[below,hx]);grind [XG]
theorem jhc{l:List Ch}(h:j8 l)(k:By):yt l k=(l[below l k]?).filter (λc=>decide (c.key=k)):=by induction l with|nil=>simp[yt,below]|cons x r ih=>unfold j8 at h;rw[XC] at h;by_cases hx:x.key<k;(have d:below (x::r) k=below r k+1:=by simp[below,hx]);(have b:x.key≠k:=λe=>zF);rw[d,List.getElem?_cons_succ,<-ih h.2];simp[yt,b];· (have d:below (x::r) k=0:=by simp[below,hx]);grind [yt]
theorem takeWhile_filter{l:List Ch}(h:j8 l)(b:By):l.takeWhile (λc=>decide (b=[])||decide (c.key<b))=l.filter (λc=>decide (b=[])||decide (c.key<b)):=by induction l with|nil=>rfl|cons x r ih=>unfold j8 at h;rw[XC] at h;by_cases hx:(decide (b=[])||decide (x.key<b))=true;rw[List.takeWhile_cons_of_pos (p:=λc:Ch=>decide (b=[])||decide (c.key<b)) hx,List.filter_cons_of_pos (p:=λc:Ch=>decide (b=[])||decide (c.key<b)) hx,ih h.2];grind [List.takeWhile_cons_of_neg,List.filter_eq_nil_iff]
def allowed(c:Ch):Bool:=decide (1<=c.key.length)&&decide (c.key.length<=16)&&decide (c.value.length<=40)&&!(c.gone&&decide (c.value≠[]))
theorem yr(c:Ch):allowed c=true↔1<=c.key.length/\c.key.length<=16/\c.value.length<=40/\(c.gone=true->c.value=[]):=by grind [allowed]
def qv(b:List Ch):Bool:=decide (1<=b.length)&&decide (b.length<=8)&&b.all allowed
def yo:List UInt8->Option (List UInt8×List UInt8)
 | []=>none
 | n::r=>if n.toNat<=r.length then some (r.take n.toNat,r.drop n.toNat)else none
def Qa:List UInt8->Option (Ch×List UInt8)
 | []=>none
 | k::r =>
  if k=1 then
   match yo r with
   | none=>none
   | some (key,r1) =>
    match yo r1 with
    | none=>none
    | some (v,r2)=>if allowed ⟨key,v,false⟩ then some (⟨key,v,false⟩,r2)else none
  else if k=2 then
   match yo r with
   | none=>none
   | some (key,r1)=>if allowed ⟨key,[],true⟩ then some (⟨key,[],true⟩,r1)else none
  else none
def xx:Nat->List UInt8->Option (List Ch×List UInt8)
 | 0,l=>some ([],l)
 | n+1,l =>
  match Qa l with
  | none=>none
  | some (c,r) =>
   match xx n r with
   | none=>none
   | some (cs,r')=>some (c::cs,r')
def J6(most:Nat):List UInt8->Option (List Ch)
 | []=>none
 | n::r=>if 1<=n.toNat/\n.toNat<=most then
     match xx n.toNat r with
     | some (cs,[])=>some cs
     | _=>none
  else none
def Zy(num:Nat)(l:By):Option (List Ch):=if 8<=l.length/\number (l.take 8)=num then J6 8 (l.drop 8)else none
def zw(num:Nat)(l:List UInt8):Option (List Ch×List UInt8) :=
 match xu l with
 | none=>none
 | some (h,r) =>
  match Zy num h with
  | none=>none
  | some b=>some (b,r)
theorem tq(n:Nat):big n 1=[UInt8.ofNat (n%256)]:=by simp[big]
theorem Bd(h:t.length<256)(r:By):yo (text t++r)=some (t,r):=by grind [ZP,text,tq,yo]
theorem Cz(h:yo l=some (t,r)):l=text t++r/\t.length<256:=by cases l with|nil=>simp[yo] at h|cons n q=>simp only[yo] at h;split at h;(· rename_i hn;cases h;have b:=n.toNat_lt;(have c:(q.take n.toNat).length=n.toNat:=by simp;omega);refine⟨?_,zC⟩;unfold text;rw[c,tq,Nat.mod_eq_of_lt b];simp);cases h
theorem Hw{c:Ch}(h:allowed c=true)(r:By):Qa (entry c++r)=some (c,r):=by obtain⟨k,v,g⟩:=c;grind [yr,entry,Qa,Bd]
theorem Pv{c:Ch}(h:Qa l=some (c,r)):l=entry c++r/\allowed c=true:=by cases l with|nil=>simp[Qa] at h|cons k q=>grind [Qa,Cz,entry]
theorem E8{cs:List Ch}(h:∀ c∈cs,allowed c=true)(r:By):xx cs.length (cs.flatMap entry++r)=some (cs,r):=by induction cs with|nil=>simp[xx]|cons c q ih=>grind [xx,Hw]
theorem Ux{cs:List Ch}(h:xx n l=some (cs,r)):l=cs.flatMap entry++r/\cs.length=n/\∀ c∈cs,allowed c=true:=by induction n generalizing l cs with|zero=>grind [xx]|succ n ih=>grind [xx,Pv]
theorem oi{cs:List Ch}(d:1<=cs.length)(b:cs.length<=most)(f:most<256)(h:∀ c∈cs,allowed c=true):J6 most (big cs.length 1++cs.flatMap entry)=some cs:=by
 have e:(UInt8.ofNat (cs.length%256)).toNat=cs.length:=by simp[ZP];omega
 rw[tq];simp only[List.singleton_append,J6];rw[e,if_pos ⟨d,b⟩];have:=E8 h [];simp_all
theorem Dx{cs:List Ch}(h:J6 most l=some cs):l=big cs.length 1++cs.flatMap entry/\1<=cs.length/\cs.length<=most/\∀ c∈cs,allowed c=true:=by cases l with|nil=>simp[J6] at h|cons n q=>simp only[J6] at h;split at h;rename_i hn;split at h;rename_i cs' h1;cases h;obtain⟨f,d,b⟩:=Ux h1;refine⟨?_,zC,zC,b⟩;rw[d,tq,Nat.mod_eq_of_lt n.toNat_lt,f];simp;cases h;cases h
def jn(num:Nat)(b:List Ch):By:=frame (big num 8++big b.length 1++b.flatMap entry)
theorem Eh{c:Ch}(h:allowed c=true):(entry c).length<=59:=by grind [yr,entry,text,jm]
theorem Ju{b:List Ch}(h:∀ c∈b,allowed c=true):(b.flatMap entry).length<=59*b.length:=by induction b with|nil=>simp|cons c r ih=>grind [Eh]
theorem yh(b:List Ch):qv b=true↔1<=b.length/\b.length<=8/\∀ c∈b,allowed c=true:=by simp[qv,and_assoc]
theorem ve{b:List Ch}(f:num<256^8)(h:qv b=true)(r:By):zw num (jn num b++r)=some (b,r):=by
 obtain⟨k,j,d⟩:=(yh b).1 h;have g:=Ju d;have c:(big num 8++big b.length 1++b.flatMap entry).length<256^4:=by grind [jm]
 unfold zw jn;rw[Xw _ _ c];have i:(big num 8).length=8:=jm _ _;have m:(big num 8++big b.length 1++b.flatMap entry).take 8=big num 8:=zG;have l:(big num 8++big b.length 1++b.flatMap entry).drop 8=big b.length 1++b.flatMap entry:=zG;grind [Zy,J2,oi]
theorem me{b:List Ch}(h:zw num l=some (b,r)):l=jn num b++r/\qv b=true:=by unfold zw at h;cases h1:xu l with|none=>rw[h1] at h;cases h|some p=>obtain⟨x,q⟩:=p;rw[h1] at h;simp only at h;cases h2:Zy num x with|none=>rw[h2] at h;cases h|some b'=>rw[h2] at h;cases h;unfold Zy at h2;split at h2;grind [Dx,yh,Bx,jn,Cs,ZF];cases h2
theorem Y5(last:Nat)(bs:List (List Ch))(b:List Ch):ji last (bs++[b])=ji last bs++jn (last+bs.length+1) b:=by induction bs generalizing last with|nil=>simp[ji,jn]|cons x r ih=>grind [ji]
def jks(last:Nat)(l:List UInt8):Nat->List (List Ch)->List UInt8->Prop
 | 0,bs,r=>bs=[]/\r=l
 | n+1,bs,r=>∃ cs q b,bs=cs++[b]/\jks last l n cs q/\last+cs.length<1000000000/\zw (last+cs.length+1) q=some (b,r)
def Jv(last:Nat)(l:By)(bs:List (List Ch))(r:By):Prop:=∃ n,jks last l n bs r
theorem Jv.none{last:Nat}:Jv last l [] l:=⟨0,rfl,rfl⟩
theorem Jv.more{last:Nat}{bs:List (List Ch)}{b:List Ch}{c:By}(h:Jv last l bs r)(f:last+bs.length<1000000000)(d:zw (last+bs.length+1) r=some (b,c)):Jv last l (bs++[b]) c:=by obtain⟨n,h⟩:=h;exact⟨n+1,bs,r,b,rfl,h,f,d⟩
theorem Jv.elim{last:Nat}{M:List (List Ch)->By->Prop}(i:M [] l)(g:∀ bs r b r',Jv last l bs r->last+bs.length<1000000000->zw (last+bs.length+1) r=some (b,r')->M bs r->M (bs++[b]) r'){bs:List (List Ch)}(h:Jv last l bs r):M bs r:=by obtain⟨n,h⟩:=h;induction n generalizing bs r with|zero=>obtain⟨rfl,rfl⟩:=h;exact i|succ n ih=>obtain⟨cs,q,b,rfl,c,f,d⟩:=h;exact g cs q b r ⟨n,c⟩ f d<|ih c
theorem Jv.inv{last:Nat}{bs:List (List Ch)}(h:Jv last l bs r):(bs=[]/\r=l)\/∃ cs q b,bs=cs++[b]/\Jv last l cs q/\last+cs.length<1000000000/\zw (last+cs.length+1) q=some (b,r):=by obtain⟨n,h⟩:=h;cases n with|zero=>exact .inl h|succ n=>obtain⟨cs,q,b,e,f,d,c⟩:=h;exact .inr ⟨cs,q,b,e,⟨n,f⟩,d,c⟩
def Over(last:Nat)(bs:List (List Ch))(r:By):Prop:=¬last+bs.length<1000000000\/zw (last+bs.length+1) r=none
theorem Jv.bytes{last:Nat}{bs:List (List Ch)}(h:Jv last l bs r):l=ji last bs++r/\∀ b∈bs,qv b=true:=by refine Jv.elim (M:=λbs r=>l=ji last bs++r/\∀ b∈bs,qv b=true) ⟨rfl,λ_ h=>by cases h⟩ ?_ h;grind [me,Y5]
theorem Jv.pfx{last:Nat}{bs cs:List (List Ch)}(h:Jv last l bs r)(k:Jv last l cs q)(d:bs.length=cs.length):bs=cs/\r=q:=by refine Jv.elim (M:=λbs r=>∀ cs q,Jv last l cs q->bs.length=cs.length->bs=cs/\r=q) ?_ ?_ h cs q k d;intro cs q k d;obtain⟨rfl,rfl⟩|⟨f,g,b,rfl,_⟩:=k.inv;exact⟨rfl,rfl⟩;simp at d;intro bs r b i s p o ih cs q k d;obtain⟨rfl,rfl⟩|⟨f,g,c,rfl,n,m,j⟩:=k.inv;simp at d;grind
theorem Jv.less{last:Nat}{bs:List (List Ch)}(h:Jv last l bs r):∀ n,n<=bs.length->∃ cs q,Jv last l cs q/\cs.length=n/\(n<bs.length->∃ b q',last+n<1000000000/\zw (last+n+1) q=some (b,q')):=by
 refine Jv.elim (M:=λbs r=>∀ n,n<=bs.length->∃ cs q,Jv last l cs q/\cs.length=n/\(n<bs.length->∃ b q',last+n<1000000000/\zw (last+n+1) q=some (b,q'))) ?_ ?_ h;intro n c;simp at c;exact⟨[],l,.none,by simp[c],zD⟩;intro bs r b d i g f ih n c;by_cases h:n<=bs.length;grind;have e:n=(bs++[b]).length:=by simp at c ⊢;omega
 exact⟨bs++[b],d,.more i g f,e.symm,zC⟩
theorem Jv.unique{last:Nat}{bs cs:List (List Ch)}(h:Jv last l bs r)(c:Over last bs r)(k:Jv last l cs q)(o:Over last cs q):bs=cs/\r=q:=by
 have H:∀ {bs cs:List (List Ch)} {r q:By},Jv last l bs r->Over last bs r->Jv last l cs q->¬bs.length<cs.length:=by intro bs cs r q h c k d;obtain⟨ds,p,j,i,g⟩:=k.less bs.length zC;obtain⟨b,n,m,f⟩:=g d;obtain⟨rfl,rfl⟩:=h.pfx j i.symm;obtain c|c:=c;exact c m;rw[c] at f;cases f
 have e:bs.length=cs.length:=zF;exact h.pfx k e
theorem P9{last:Nat}{bs:List (List Ch)}(h:∀ b∈bs,qv b=true)(j:last+bs.length<=1000000000)(r:By):Jv last (ji last bs++r) bs r:=by
 have H:∀(q bs:List (List Ch)),(∀ b∈bs++q,qv b=true)->last+(bs++q).length<=1000000000->∀ d,Jv last (ji last (bs++q)++r) bs (d)->d=ji (last+bs.length) q++r->Jv last (ji last (bs++q)++r) (bs++q) r:=by intro q;induction q with|nil=>grind [ji]|cons b q ih=>intro bs f c d h e;(have l:bs++b::q=(bs++[b])++q:=zD);have g:qv b=true:=f b zD;simp only[ZA,xC] at c;(have k:zw (last+bs.length+1) d=some (b,ji (last+bs.length+1) q++r):=by rw[e];simp only[ji,xK];have:=ve (num:=last+bs.length+1) zC g (ji (last+bs.length+1) q++r);simpa [jn] using this);have i:=Jv.more h zC k;rw[l] at i f ⊢;refine ih (bs++[b]) f (by simp;omega) _ i ?_;simp[Nat.add_assoc]
 have:=H bs [] (by simpa using h) (by simpa using j) _ .none zD;simpa using this
theorem Qi(last:Nat)(bs:List (List Ch)):Over last bs []:=by refine .inr ?_;simp[zw,xu]
structure Man where
 next:Nat
 last:Nat
 log:Nat
 base:Nat
 runs:List Nat
def Man.settled(m:Man):List Nat:=if m.base=0 then m.runs else m.runs++[m.base]
def Man.numbers(m:Man):List Nat:=m.settled++[m.log]
abbrev Man.Good(m:Man):Prop:=m.next<=2000000000/\m.last<=1000000000/\(∀ n∈m.numbers,1<=n/\n<m.next)/\m.numbers.Nodup
def Man.bytes(m:Man):By:=iu m.next m.last m.log m.base m.runs
def Ji:Nat->List UInt8->List Nat
 | 0,_=>[]
 | n+1,l=>number (l.take 8)::Ji n (l.drop 8)
def Dm(l:List UInt8):Option Man :=
 match xu l with
 | none=>none
 | some (h,r) =>
  if r=[]/\34<=h.length/\h.length=34+8*number ((h.drop 32).take 2)then
   let m:Man:=⟨number (h.take 8),number ((h.drop 8).take 8),number ((h.drop 16).take 8),number ((h.drop 24).take 8),Ji (number ((h.drop 32).take 2)) (h.drop 34)⟩
   if m.Good then some m else none
  else none
theorem Pn{rs:List Nat}(h:∀ r∈rs,r<256^8)(q:By):Ji rs.length (rs.flatMap (λr=>big r 8)++q)=rs:=by induction rs with|nil=>rfl|cons x r ih=>have b:(big x 8).length=8:=jm _ _;grind [Ji,J2]
theorem Iz(n:Nat)(l:By):(Ji n l).length=n:=by induction n generalizing l with|zero=>rfl|succ n ih=>simp[Ji,ih]
theorem Man.Good.bounds{m:Man}(h:m.Good):m.next<256^8/\m.last<256^8/\m.log<256^8/\m.base<256^8/\∀ r∈m.runs,r<256^8:=by obtain⟨g,f,b,d⟩:=h;have c:=b m.log (by simp[Man.numbers]);refine⟨zC,zC,zC,?_,λr c=>?_⟩;by_cases hb:m.base=0;omega;have:=b m.base (by simp[Man.numbers,Man.settled,hb]);omega;have:=b r (by grind [Man.numbers,Man.settled]);omega
theorem Bl{m:Man}(h:m.Good)(j:m.runs.length<65536):Dm m.bytes=some m:=by
 obtain⟨q,p,o,l,d⟩:=h.bounds;obtain⟨next,last,log,base,runs⟩:=m;simp only at q p o l d j;have i:(big next 8).length=8:=jm _ _;have v:(big last 8).length=8:=jm _ _;have u:(big log 8).length=8:=jm _ _;have t:(big base 8).length=8:=jm _ _;have g:(big runs.length 2).length=2:=jm _ _;have M:(runs.flatMap λr=>big r 8).length=8*runs.length:=by clear d j h g;induction runs with|nil=>rfl|cons x r ih=>grind [jm]
 generalize hA:big next 8=A at *;generalize hB:big last 8=B at *;generalize hC:big log 8=C at *;generalize hD:big base 8=D at *;generalize hE:big runs.length 2=E at *;generalize hF:(runs.flatMap λr=>big r 8)=F at *;have y:Man.bytes ⟨next,last,log,base,runs⟩=frame (A++(B++(C++(D++(E++F))))):=by grind [Man.bytes,iu]
 have b:(A++(B++(C++(D++(E++F))))).length=34+8*runs.length:=zF;have c:∀(X Y:By) n,X.length=n->(X++Y).take n=X:=λX Y n e=>by subst e;simp
 have z:∀(X Y:By) n,X.length=n->(X++Y).drop n=Y:=λX Y n e=>by subst e;simp
 have L:=z A (B++(C++(D++(E++F)))) 8 i;have J:(A++(B++(C++(D++(E++F))))).drop 16=C++(D++(E++F)):=zF;have I:(A++(B++(C++(D++(E++F))))).drop 24=D++(E++F):=zF;have H:(A++(B++(C++(D++(E++F))))).drop 32=E++F:=zF;have G:(A++(B++(C++(D++(E++F))))).drop 34=F:=by grind [XO]
 have k:=Xw (A++(B++(C++(D++(E++F))))) [] (by rw[b];omega);rw[ZE] at k;have f:number E=runs.length:=by grind [J2]
 unfold Dm;rw[y,k];simp only[L,J,I,H,G,c A _ 8 i,c B _ 8 v,c C _ 8 u,c D _ 8 t,c E _ 2 g,f,b];rw[if_pos ⟨trivial,zC,trivial⟩];have s:Ji runs.length F=runs:=by have:=Pn d [];simp_all
 rw[s,<-hA,<-hB,<-hC,<-hD,J2 _ _ q,J2 _ _ p,J2 _ _ o,J2 _ _ l,if_pos h]
theorem Rx(a b:By):a<b\/a=b\/b<a:=Std.lt_trichotomy a b
theorem jdp(h:a<b):a≠b:=λe=>zF
theorem jl8(h:a<b):¬b<a:=λk=>List.lt_irrefl _<|List.lt_trans h k
theorem Qd(x:Ch)(l:List Ch)(k:By):yt (x::l) k=if x.key=k then some x else yt l k:=by grind [yt]
theorem jhd{l:List Ch}{c:Ch}(h:yt l k=some c):c.key=k:=by have:=List.find?_some h;simpa using this
theorem A6{l:List Ch}{c:Ch}(h:yt l k=some c):c∈l:=List.mem_of_find?_eq_some h
theorem sy{l:List Ch}(h:∀ c∈l,c.key≠k):yt l k=none:=List.find?_eq_none.2 (λc d=>by simpa using h c d)
theorem sx{l:List Ch}(h:j8 l){c:Ch}(b:c∈l):yt l c.key=some c:=by induction l with|nil=>cases b|cons x r ih=>grind [j8,XC,Qd]
theorem jcs{a b:List Ch}(d:j8 a)(c:j8 b)(h:∀ k,yt a k=yt b k):a=b:=by
 induction a generalizing b with
 | nil =>
  cases b with
  | nil=>rfl
  | cons y s =>
   have:=h y.key
   rw[Qd,if_pos rfl] at this
   cases this
 | cons x r ih =>
  cases b with
  | nil =>
   have:=h x.key
   rw[Qd,if_pos rfl] at this
   cases this
  | cons y s =>
   have l:=d
   have j:=c
   unfold j8 at d c
   rw[XC] at d c
   have i:¬x.key<y.key:=λf=>by
    have:=h x.key
    grind [Qd,sy]
   have g:¬y.key<x.key:=λf=>by
    have:=h y.key
    grind [Qd,sy]
   have m:x.key=y.key:=(Rx x.key y.key).elim (λh=>(i h).elim) (λh=>h.elim id (λh=>(g h).elim))
   have f:x=y:=by
    have:=h x.key
    grind [Qd]
   subst f
   refine congrArg _ (ih d.2 c.2 (λk=>?_))
   by_cases hk:x.key=k
   .grind [sy]
   .have:=h k
    grind [Qd]
theorem jhe{l:List Ch}(h:j8 l)(c:Ch)(k:By):yt (ins c l) k=if c.key=k then some c else yt l k:=by induction l with|nil=>simp[ins,Qd]|cons x r ih=>grind [j8,ins,Qd]
theorem jdz{l more:List Ch}(h:j8 l)(b:j8 more)(k:By):yt (over l more) k=(yt more k).or (yt l k):=by induction more generalizing l with|nil=>simp[over,yt]|cons x r ih=>unfold j8 at b;rw[XC] at b;(have e:over l (x::r)=over (ins x l) r:=by simp[over,r8 h]);rw[e,ih (cu h) b.2,jhe h,Qd];grind [sy]
def merged(ls:List (List Ch)):List Ch:=ls.foldr (λl acc=>over acc l) []
theorem Z0(l:List Ch)(ls:List (List Ch)):merged (l::ls)=over (merged ls) l:=rfl
theorem zk(ls:List (List Ch)):j8 (merged ls):=by induction ls with|nil=>exact List.Pairwise.nil|cons l ls ih=>exact Ql ih
def tf(ls:List (List Ch))(k:By):Option Ch:=ls.foldr (λl acc=>(yt l k).or acc) none
theorem Yt(l:List Ch)(ls:List (List Ch))(k:By):tf (l::ls) k=(yt l k).or (tf ls k):=rfl
theorem bc{ls:List (List Ch)}(h:∀ l∈ls,j8 l)(k:By):yt (merged ls) k=tf ls k:=by induction ls with|nil=>rfl|cons l ls ih=>grind [Z0,jdz,zk,Yt]
theorem dr{l:List Ch}(h:j8 l)(p:Ch->Bool):j8 (l.filter p):=h.sublist xQ
theorem Ec{l:List Ch}(q:By->Bool)(k:By):yt (l.filter (λc=>q c.key)) k=if q k then yt l k else none:=by grind [yt]
theorem Br{ls:List (List Ch)}(h:∀ l∈ls,j8 l)(q:By->Bool):merged (ls.map (λl=>l.filter (λc=>q c.key)))=(merged ls).filter (λc=>q c.key):=by
 refine jcs (zk _) (dr (zk _) _) λk=>?_
 rw[Ec q,bc h,bc (λl d=>by grind [dr])];induction ls with|nil=>simp[tf]|cons l ls ih=>rw[XA,Yt,Yt,ih (λx d=>h x<|xP _ d),Ec q];cases q k<;>simp
structure Source where
 entries:List Ch
 age:Nat
def Source.top(s:Source):By:=(s.entries.head?.map Ch.key).getD []
def Source.less(a b:Source):Bool:=decide (a.top<b.top)||(decide (a.top=b.top)&&decide (a.age<b.age))
theorem Source.G6(a:Source):a.less a=false:=by grind [Source.less]
theorem Source.jdn{a b c:Source}(h:a.less b=true)(k:b.less c=true):a.less c=true:=by grind [Source.less]
def Source.le(a b:Source):Prop:=b.less a=false
theorem Source.le_refl(a:Source):a.le a:=a.G6
theorem Source.Ck{a b:Source}(h:a.less b=true):a.le b:=by grind [Source.le,Source.jdn,Source.G6]
theorem Source.le_trans{a b c:Source}(h:a.le b)(k:b.le c):a.le c:=by grind [Source.le,Source.less]
def Qw(l:List Source)(n:Nat):Prop:=∀(j:Nat) (a b:Source),0<j->j<n->l[(j-1)/2]?=some a->l[j]?=some b->a.le b
structure pn(l:List Source)(j:Nat):Prop where
 other:∀(k:Nat) (a b:Source),0<k->k≠j->l[(k-1)/2]?=some a->l[k]?=some b->a.le b
 below:∀(k:Nat) (a b:Source),0<k->0<j->(k-1)/2=j->l[(j-1)/2]?=some a->l[k]?=some b->a.le b
theorem Ke{l:List Source}{a b:Source}(hi:i<l.length)(d:j<l.length)(c:i≠j)(k:Nat):((l.set i b).set j a)[k]?=if k=j then some a else if k=i then some b else l[k]?:=by grind
theorem ow{l:List Source}{a:Source}(h:l[i]?=some a):i<l.length:=(ZY.1 h).1
theorem swap_perm{l:List Source}{a b:Source}(d:l[i]?=some a)(c:l[j]?=some b):((l.set i b).set j a).Perm l:=by grind [List.set_set_perm]
theorem pn.start{l:List Source}{x:Source}(h:Qw l l.length):pn (l++[x]) l.length:=by refine⟨λk a b g c f d=>?_,λk a b g m c f d=>?_⟩;have c:=ow d;simp at c;rw[List.getElem?_append_left zC] at f d;exact h k a b g zC f d;grind
theorem pn.done{l:List Source}(h:pn l j)(f:j=0\/∃ a b,l[(j-1)/2]?=some a/\l[j]?=some b/\b.less a=false):Qw l l.length:=by intro k a b n o i g;by_cases e:k=j;subst e;obtain f|⟨x,y,d,c,m⟩:=f;omega;rw[i] at d;cases d;rw[g] at c;cases c;exact m;exact h.other k a b n e i g
theorem pn.step{l:List Source}{a b:Source}(h:pn l j)(o:0<j)(d:l[(j-1)/2]?=some a)(p:l[j]?=some b)(n:b.less a=true):pn ((l.set ((j-1)/2) b).set j a) ((j-1)/2):=by
 have g:=ow d;have f:=ow p;have c:(j-1)/2≠j:=zC;have m:=Source.Ck n;refine⟨λk x y v z s u=>?_,λk x y v A z s u=>?_⟩
 .rw[Ke g f c] at s u;by_cases e1:k=j;(· simp_all);· rw[if_neg e1,if_neg z] at u;by_cases e2:(k-1)/2=j;(· rw[if_pos e2] at s;cases s;exact h.below k _ y v o e2 d u);· rw[if_neg e2] at s;by_cases e3:(k-1)/2=(j-1)/2;(· rw[if_pos e3] at s;cases s;exact Source.le_trans m<|h.other k a y v e1 (e3▸d) u);· rw[if_neg e3] at s;exact h.other k x y v e1 s u
 .rw[Ke g f c] at s u;rw[if_neg zC,if_neg zC] at s;have i:=h.other _ _ _ A c s d;by_cases e1:k=j;(· simp_all);· rw[if_neg e1,if_neg zC] at u;exact Source.le_trans i<|h.other k a y v e1 (z▸d) u
structure Xd(l:List Source)(i n:Nat):Prop where
 other:∀(k:Nat) (a b:Source),0<k->k<n->(k-1)/2≠i->l[(k-1)/2]?=some a->l[k]?=some b->a.le b
 below:∀(k:Nat) (a b:Source),0<k->k<n->0<i->(k-1)/2=i->l[(i-1)/2]?=some a->l[k]?=some b->a.le b
theorem Xd.start{l:List Source}{x:Source}(h:Qw l n):Xd (l.set 0 x) 0 n:=by refine⟨λk a b f c d d g=>?_,λk a b f c hi _ _ _=>zC⟩;rw[XW zC] at d g;exact h k a b f c d g
theorem Xd.none{l:List Source}(h:Xd l i n)(j:n<=2*i+1):Qw l n:=by intro k a b g c f d;exact h.other k a b g c zC f d
theorem Xd.done{l:List Source}{a b:Source}(h:Xd l i n)(s:j=2*i+1\/j=2*i+2)(r:j<n)(p:l[i]?=some a)(t:l[j]?=some b)(o:b.less a=false)(m:∀ k c,(k=2*i+1\/k=2*i+2)->k<n->l[k]?=some c->b.le c):Qw l n:=by intro k x y q g d f;by_cases e:(k-1)/2=i;rw[e,p] at d;cases d;exact Source.le_trans (b:=b) o<|m k y zC g f;exact h.other k x y q g e d f
theorem Xd.step{l:List Source}{a b:Source}(h:Xd l i n)(t:j=2*i+1\/j=2*i+2)(o:j<n)(q:l[i]?=some a)(m:l[j]?=some b)(p:b.less a=true)(s:∀ k c,(k=2*i+1\/k=2*i+2)->k<n->l[k]?=some c->b.le c):Xd ((l.set i b).set j a) j n:=by have g:=ow q;have f:=ow m;have d:i≠j:=zC;have r:=Source.Ck p;refine⟨λk x y A B z v u=>?_,λk x y A B C z v u=>?_⟩;rw[Ke g f d] at v u;rw[if_neg z] at v;by_cases e1:(k-1)/2=i;grind;rw[if_neg e1] at v;by_cases e2:k=j;omega;rw[if_neg e2] at u;by_cases e3:k=i;rw[if_pos e3] at u;cases u;subst e3;exact h.below j x b zC o A zC v m;rw[if_neg e3] at u;exact h.other k x y A B e1 v u;rw[Ke g f d] at v u;rw[if_neg zC,if_pos zC] at v;cases v;rw[if_neg zC,if_neg zC] at u;exact h.other k b y A B zC (z▸m) u
theorem Qw.top{s:Source}{r:List Source}(h:Qw (s::r) (s::r).length):∀ t∈s::r,s.le t:=by
 have H:∀(n k:Nat) (t:Source),k<=n->(s::r)[k]?=some t->s.le t:=by intro n;induction n with|zero=>grind [Source.le_refl]|succ n ih=>intro k t f b;by_cases h0:k=0;grind;· have c:=ow b;obtain⟨a,d⟩:∃ a,(s::r)[(k-1)/2]?=some a:=⟨_,zS zC⟩;exact Source.le_trans (ih _ a zC d)<|h k a t zC c d b
 intro t b;obtain⟨k,f,e⟩:=XU b;exact H k k t (ZG _) zF
structure Am(hs:List Source)(last:List UInt8):Prop where
 some:∀ s∈hs,s.entries≠[]
 rising:∀ s∈hs,j8 s.entries
 jn6:hs.Pairwise (λs t=>s.age≠t.age)
 keys:∀ s∈hs,∀ c∈s.entries,¬c.key<last
structure b8(hs:List Source)(last:List UInt8)(L:List Ch):Prop where
 rising:j8 L
 behind:∀ c∈L,last<c.key
 has:∀ k c,last<k->(yt L k=Option.some c↔∃ s∈hs,yt s.entries k=Option.some c/\∀ t∈hs,t.age<s.age->yt t.entries k=none)
theorem Am.perm{b c:List Source}{last:By}(h:Am b last)(p:b.Perm c):Am c last:=⟨λs d=>h.some s<|p.mem_iff.2 d,λs d=>h.rising s<|p.mem_iff.2 d,(p.pairwise_iff λe=>Ne.symm e).1 h.jn6,λs d=>h.keys s<|p.mem_iff.2 d⟩
theorem b8.perm{b d:List Source}{last:By}{L:List Ch}(h:b8 b last L)(p:b.Perm d):b8 d last L:=by refine⟨h.rising,h.behind,λk c f=>(h.has k c f).trans ?_⟩;grind
def taken(s:Source)(r:List Source):List Source:=if s.entries.tail=[] then r else⟨s.entries.tail,s.age⟩::r
theorem Vm{s:Source}{c:Ch}{q:List Ch}(h:s.entries=c::q):s.top=c.key:=by simp[Source.top,h]
theorem Am.next{s:Source}{r:List Source}{last:By}{c:Ch}{q:List Ch}(h:Am (s::r) last)(m:s.entries=c::q)(n:∀ t∈s::r,s.le t):Am (taken s r) c.key/\Am (taken s r) last:=by
 have g:=h.rising s xO;rw[m] at g;unfold j8 at g;rw[XC] at g;have k:=h.jn6;rw[XC] at k;have j:∀ t∈r,∀ x∈t.entries,¬x.key<c.key:=by intro t b x f o;have i:=n t<|xP _ b;unfold Source.le Source.less at i;simp only[Bool.or_eq_false_iff,decide_eq_false_iff_not] at i;have u:j8 t.entries:=h.rising t<|xP _ b;cases he:t.entries with|nil=>rw[he] at f;cases f|cons y z=>grind [Vm,j8,XC]
 have d:∀ K,(∀ t∈r,∀ x∈t.entries,¬x.key<K)->(∀ x∈q,¬x.key<K)->Am (taken s r) K:=by intro K l p;unfold taken;split;exact⟨λt b=>h.some t<|xP _ b,λt b=>h.rising t<|xP _ b,k.2,l⟩;· rename_i hne;refine⟨λt b=>?_,λt b=>?_,XC.2 ⟨k.1,k.2⟩,λt b=>?_⟩;(all_goals obtain rfl|b:=xN.1 b);exact hne;exact h.some t<|xP _ b;rw[m];exact g.2;exact h.rising t<|xP _ b;simp_all;exact l t b
 refine⟨d _ j λx f=>jl8<|g.1 x f,d _ (λt b=>h.keys t<|xP _ b) λx f=>h.keys s xO x zG⟩
theorem Ra{s:Source}{r:List Source}{c:Ch}{q:List Ch}(b:s.entries=c::q)(d:c.key≠k)(x:Ch):(∃ t∈taken s r,yt t.entries k=some x/\∀ u∈taken s r,u.age<t.age->yt u.entries k=none)↔(∃ t∈s::r,yt t.entries k=some x/\∀ u∈s::r,u.age<t.age->yt u.entries k=none):=by grind [yt,taken,xO]
theorem b8.again{s:Source}{r:List Source}{last:By}{c:Ch}{q L:List Ch}(h:b8 (s::r) last L)(b:s.entries=c::q)(d:c.key=last):b8 (taken s r) last L:=by refine⟨h.rising,h.behind,λk x f=>?_⟩;rw[h.has k x f,Ra b (λe=>jdp f<|d.symm.trans e)]
theorem b8.next{s:Source}{r:List Source}{last:By}{c:Ch}{q L:List Ch}(F:Am (s::r) last)(h:b8 (s::r) last L)(o:s.entries=c::q)(p:∀ t∈s::r,s.le t)(v:c.key≠last):last<c.key/\∃ M,L=c::M/\b8 (taken s r) c.key M:=by
 have d:last<c.key:=by rcases Rx last c.key with b|b|b;exact b;exact(v b.symm).elim;exact(F.keys s xO c zG b).elim
 have l:yt L c.key=some c:=by rw[h.has _ _ d];refine⟨s,xO,by grind [Qd],λt m f=>?_⟩;cases he:yt t.entries c.key with|none=>rfl|some x=>have f:=A6 he;have n:=jhd he;have C:=p t m;have g:=F.rising t m;cases he2:t.entries with|nil=>rw[he2] at f;cases f|cons y z=>grind [Source.le,Source.less,Vm,j8,XC]
 have Fn:=(F.next o p).1;have u:∀ x∈L,¬x.key<c.key:=by intro x f j;obtain⟨t,m,b,_⟩:=(h.has x.key x<|h.behind x f).1<|sx h.rising f;have i:=A6 b;rcases xN.1 m with rfl|B;(· rw[o] at i;have D:j8 t.entries:=F.rising t xO;grind [j8,XC]);(have:t∈taken s r:=by grind [taken]);exact Fn.keys t this x i j
 refine⟨d,?_⟩;cases L with|nil=>cases l|cons y M=>have g:=h.rising;unfold j8 at g;rw[XC] at g;(have A:y=c:=by grind [A6]);subst A;refine⟨M,rfl,g.2,g.1,λk x n=>?_⟩;rw[Ra o (jdp n),<-h.has k x (List.lt_trans d n),Qd,if_neg (jdp n)]
theorem b8.nil{last:By}{L:List Ch}(h:b8 [] last L):L=[]:=by cases L with|nil=>rfl|cons x r=>obtain⟨s,b,_⟩:=(h.has x.key x<|h.behind x xO).1<|sx h.rising xO;cases b
def xd:Nat->List (List Ch)->List Source
 | _,[]=>[]
 | n,l::ls=>if l=[] then xd (n+1) ls else⟨l,n⟩::xd (n+1) ls
theorem fh{ls:List (List Ch)}:∀ s∈xd n ls,n<=s.age:=by induction ls generalizing n with|nil=>intro s b;cases b|cons l ls ih=>grind [xd]
theorem Tg{ls:List (List Ch)}(h:∀ l∈ls,j8 l):Am (xd n ls) []:=by induction ls generalizing n with|nil=>exact⟨λs b=>(by cases b),λs b=>(by cases b),List.Pairwise.nil,λs b=>(by cases b)⟩|cons l ls ih=>(have I:=ih (n:=n+1) λx hx=>h x<|xP _ hx);unfold xd;split;exact I;rename_i hne;refine⟨λs b=>?_,λs b=>?_,XC.2 ⟨λt ht=>?_,I.jn6⟩,λs b c hc hlt=>List.not_lt_nil _ hlt⟩;obtain rfl|b:=xN.1 b;exact hne;exact I.some s b;obtain rfl|b:=xN.1 b;exact h l xO;exact I.rising s b;have:=fh t ht;show n≠t.age;omega
theorem Bg{ls:List (List Ch)}(k:By)(c:Ch):tf ls k=some c↔∃ s∈xd n ls,yt s.entries k=some c/\∀ t∈xd n ls,t.age<s.age->yt t.entries k=none:=by induction ls generalizing n with|nil=>simp[tf,xd]|cons l ls ih=>rw[Yt];unfold xd;split;rename_i hl;rw[hl];show((none:Option Ch).or _)=_↔_;rw[Option.none_or];exact ih;cases hg:yt l k with|some x=>rw[Option.some_or];constructor;intro e;cases e;refine⟨⟨l,n⟩,xO,hg,λt b hlt=>?_⟩;rcases xN.1 b with rfl|b;omega;have:=fh t b;grind;grind [fh,xO]|none=>rw[Option.none_or,ih (n:=n+1)];simp_all
theorem Tf{ls:List (List Ch)}(h:∀ l∈ls,j8 l)(g:∀ l∈ls,∀ c∈l,c.key≠[]):b8 (xd n ls) [] (merged ls):=by
 refine⟨zk ls,λc f=>?_,λk c _=>?_⟩;have j:=sx (zk ls) f;rw[bc h,Bg (n:=n)] at j;obtain⟨s,m,i,d⟩:=j;clear d;have:∃ l∈ls,s.entries=l:=by clear i h g f;induction ls generalizing n with|nil=>cases m|cons l ls ih=>grind [xd]
 obtain⟨l,o,e⟩:=this;have f:=g l o c (e▸A6 i);cases hkc:c.key with|nil=>exact(f hkc).elim|cons a b=>exact List.nil_lt_cons _ _
 rw[bc h];exact Bg k c
def chunks:List Ch->List (List Ch)
 | []=>[]
 | a::b::c::d::r=>[a,b,c,d]::chunks r
 | l=>[l]
def jw(b:List Ch):By:=frame (big b.length 1++b.flatMap entry)
def Jo(b:List Ch):By:=(b.head?.map Ch.key).getD []
def ym(p:Nat×By):By:=big p.1 4++text p.2
def j3:Nat->List (List Ch)->List (Nat×List UInt8)
 | _,[]=>[]
 | n,b::r=>(n,Jo b)::j3 (n+(jw b).length) r
def Jg(bl:List (List Ch)):By:=bl.flatMap jw++frame (big bl.length 2++(j3 0 bl).flatMap ym)++big (bl.flatMap jw).length 4
def jr(l:List Ch):By:=Jg (chunks l)
theorem Xa(l:List Ch):(chunks l).flatten=l:=by induction l using chunks.induct with|case1=>rfl|case2 a b c d r ih=>rw[chunks];simp[ih]|case3 l h1 h2=>grind [chunks]
theorem jei{l:List Ch}:chunks l=[]↔l=[]:=by constructor;grind [Xa];intro h;rw[h];rfl
theorem tj{l b:List Ch}(h:b∈chunks l):1<=b.length/\b.length<=4:=by induction l using chunks.induct with|case1=>cases h|case2 a b' c d r ih=>rw[chunks] at h;rcases xN.1 h with rfl|h;simp;exact ih h|case3 l h1 h2=>rw[chunks] at h;rw[xV] at h;subst h;(match b,h1,h2 with|[],h1,_=>exact(h1 rfl).elim|[a],_,_=>simp|[a,b],_,_=>simp|[a,b,c],_,_=>simp|a::b::c::d::r,_,h2=>exact(h2 a b c d r rfl).elim);exact h1;exact h2
theorem Cq{l b:List Ch}(h:b∈chunks l):∀ c∈b,c∈l:=by grind [Xa,List.mem_flatten]
theorem Hk{l:List Ch}(h:l≠[]):chunks l=l.take 4::chunks (l.drop 4):=by match l,h with|[],h=>exact(h rfl).elim|[a],_=>rfl|[a,b],_=>rfl|[a,b,c],_=>rfl|a::b::c::d::r,_=>rw[chunks];simp
theorem Zb(l:List Ch):(chunks l).length=(l.length+3)/4:=by induction l using chunks.induct with|case1=>rfl|case2 a b c d r ih=>rw[chunks];simp[ih];omega|case3 l h1 h2=>match l,h1,h2 with|[],h1,_=>exact(h1 rfl).elim|[a],_,_=>simp[chunks]|[a,b],_,_=>simp[chunks]|[a,b,c],_,_=>simp[chunks]|a::b::c::d::r,_,h2=>exact(h2 a b c d r rfl).elim
def gu(footer:Nat)(l:List UInt8):Option ((Nat×List UInt8)×List UInt8) :=
 if 4<=l.length/\number (l.take 4)<=footer then
  match yo (l.drop 4)with
  | some (t,q)=>some ((number (l.take 4),t),q)
  | none=>none
 else none
def Qq(footer:Nat):Nat->List UInt8->Option (List (Nat×List UInt8)×List UInt8)
 | 0,l=>some ([],l)
 | n+1,l =>
  match gu footer l with
  | none=>none
  | some (p,r) =>
   match Qq footer n r with
   | none=>none
   | some (ps,q)=>some (p::ps,q)
def wm(ps:List (Nat×By)):Bool:=decide ((ps.head?.map Prod.fst)=some 0)&&decide (ps.Pairwise (λa b=>a.1<=b.1))
def ik(footer:Nat)(l:List UInt8):Option (List (Nat×List UInt8)) :=
 if 2<=l.length/\number (l.take 2)≠0 then
  match Qq footer (number (l.take 2)) (l.drop 2)with
  | some (ps,[])=>if wm ps then some ps else none
  | _=>none
 else none
def Kj(b:List UInt8):Option (Nat×List (Nat×List UInt8)) :=
 if 4<=b.length/\number (b.drop (b.length-4))<=b.length-4 then
  match xu ((b.take (b.length-4)).drop (number (b.drop (b.length-4))))with
  | some (h,[]) =>
   match ik (number (b.drop (b.length-4))) h with
   | some ps=>some (number (b.drop (b.length-4)),ps)
   | none=>none
  | _=>none
 else none
def Yx(footer:Nat)(ps:List (Nat×By))(i:Nat):Nat:=((ps[i+1]?).map Prod.fst).getD footer
def Ew(ps:List (Nat×By))(i:Nat):Nat:=((ps[i]?).map Prod.fst).getD 0
def keyOf(ps:List (Nat×By))(i:Nat):By:=((ps[i]?).map Prod.snd).getD []
def Kn(b:List Ch):By:=(b.getLast?.map Ch.key).getD []
def fits(ps:List (Nat×By))(i:Nat)(es:List Ch):Bool :=
 decide (Jo es=keyOf ps i)&&decide (es.Pairwise (λa b=>a.key<b.key))&&(decide (i+1=ps.length)||(decide (es.length=4)&&decide (Kn es<keyOf ps (i+1))))
def Kp(b:List UInt8)(footer:Nat)(ps:List (Nat×List UInt8))(i:Nat):Option (List Ch) :=
 match xu ((b.take (Yx footer ps i)).drop (Ew ps i))with
 | some (h,[]) =>
  match J6 4 h with
  | some es=>if fits ps i es then some es else none
  | none=>none
 | _=>none
theorem yd(n:Nat)(bl:List (List Ch)):(j3 n bl).length=bl.length:=by induction bl generalizing n with|nil=>rfl|cons b r ih=>simp[j3,ih]
theorem Jn(n:Nat)(bl:List (List Ch))(i:Nat):(j3 n bl)[i]?=(bl[i]?).map (λb=>(n+((bl.take i).flatMap jw).length,Jo b)):=by induction bl generalizing n i with|nil=>simp[j3]|cons b r ih=>cases i with|zero=>simp[j3]|succ i=>grind [j3]
theorem si(n:Nat)(bl:List (List Ch)):∀ p∈j3 n bl,n<=p.1/\p.1<=n+(bl.flatMap jw).length:=by intro p b;obtain⟨i,hi,e⟩:=XU b;have h:=Jn n bl i;grind [ZF]
theorem Mo(n:Nat)(bl:List (List Ch)):(j3 n bl).Pairwise (λa b=>a.1<=b.1):=by induction bl generalizing n with|nil=>exact List.Pairwise.nil|cons b r ih=>refine XC.2 ⟨λp c=>?_,ih _⟩;have:=(si _ _ p c).1;show n<=p.1;omega
theorem La(f:p.1<=F)(d:p.1<256^4)(c:p.2.length<256)(q:By):gu F (ym p++q)=some (p,q):=by
 have b:(big p.1 4).length=4:=jm _ _;have i:(ym p++q).take 4=big p.1 4:=by grind [ym]
 have g:(ym p++q).drop 4=text p.2++q:=by grind [ym]
 grind [gu,J2,Bd]
theorem Hv(h:∀ p∈ps,p.1<=F/\p.1<256^4/\p.2.length<256)(q:By):Qq F ps.length (ps.flatMap ym++q)=some (ps,q):=by induction ps with|nil=>simp[Qq]|cons p r ih=>obtain⟨d,c,b⟩:=h p xO;rw[xC,Qq,List.flatMap_cons,xK,La d c b];simp_all
structure Laid(bl:List (List Ch)):Prop where
 ne:bl≠[]
 len:∀ b∈bl,1<=b.length/\b.length<=4
 full:∀(i:Nat) (b:List Ch),i+1<bl.length->bl[i]?=some b->b.length=4
 ok:∀ b∈bl,∀ c∈b,allowed c=true
 rising:j8 bl.flatten
 small:(bl.flatMap jw).length<256^4/\bl.length<65536
theorem Ef{b:List Ch}(h:∀ c∈b,allowed c=true):(Jo b).length<256:=by cases b with|nil=>simp[Jo]|cons c r=>have:=(yr c).1<|h c xO;show c.key.length<256;omega
theorem Laid.places{bl:List (List Ch)}(h:Laid bl):ik (bl.flatMap jw).length (big bl.length 2++(j3 0 bl).flatMap ym)=some (j3 0 bl):=by
 have f:(big bl.length 2).length=2:=jm _ _;have l:(big bl.length 2++(j3 0 bl).flatMap ym).take 2=big bl.length 2:=zG;have k:(big bl.length 2++(j3 0 bl).flatMap ym).drop 2=(j3 0 bl).flatMap ym:=zG;have d:bl.length≠0:=λe=>h.ne<|xY e
 have j:Qq (bl.flatMap jw).length bl.length ((j3 0 bl).flatMap ym)=some (j3 0 bl,[]):=by have:=Hv (F:=(bl.flatMap jw).length) (ps:=j3 0 bl) (λp c=>?_) [];(· grind [yd]);· have n:=(si 0 bl p c).2;have m:=h.small.1;refine⟨zC,zC,?_⟩;obtain⟨i,hi,e⟩:=XU c;have c:=Jn 0 bl i;rw[zS hi,e] at c;rw[yd] at hi;rw[zS hi] at c;cases c;exact Ef<|h.ok _<|ZL hi
 have g:wm (j3 0 bl)=true:=by unfold wm;rw[ZR];refine⟨?_,by grind [Mo]⟩;cases bl with|nil=>exact(h.ne rfl).elim|cons b r=>simp[j3]
 unfold ik;rw[l,k,J2 _ _ h.small.2,if_pos ⟨by simp[f],d⟩,j];simp only[g,if_true]
theorem Dp:(ym p).length=5+p.2.length:=by simp[ym,text,jm];omega
theorem Uw{bl:List (List Ch)}(h:Laid bl):(big bl.length 2++(j3 0 bl).flatMap ym).length<256^4:=by
 have H:∀(ps:List (Nat×By)),(∀ p∈ps,p.2.length<256)->(ps.flatMap ym).length<=261*ps.length:=by intro ps;induction ps with|nil=>simp|cons p r ih=>grind [Dp]
 have c:=H (j3 0 bl) (λp d=>by obtain⟨i,hi,e⟩:=XU d;have b:=Jn 0 bl i;rw[zS hi,e] at b;rw[yd] at hi;rw[zS hi] at b;cases b;exact Ef (h.ok _ (ZL hi)));rw[yd] at c;have d:=h.small.2;grind [jm]
theorem Laid.read{bl:List (List Ch)}(h:Laid bl):Kj (Jg bl)=some ((bl.flatMap jw).length,j3 0 bl):=by
 generalize hB:bl.flatMap jw=B;generalize hf:frame (big bl.length 2++(j3 0 bl).flatMap ym)=f;have d:Jg bl=B++f++big B.length 4:=by unfold Jg;rw[hB,hf]
 have g:(big B.length 4).length=4:=jm _ _;have l:(Jg bl).length=B.length+f.length+4:=by rw[d];simp[g];omega
 have b:=h.small.1;rw[hB] at b;have k:(Jg bl).drop ((Jg bl).length-4)=big B.length 4:=zG;have j:(Jg bl).take ((Jg bl).length-4)=B++f:=zF;have i:xu f=some (big bl.length 2++(j3 0 bl).flatMap ym,[]):=by grind [Xw,Uw]
 have c:=h.places;rw[hB] at c;unfold Kj;rw[k,j,J2 _ _ b,if_pos ⟨zC,zC⟩,List.drop_left,i];simp only[c]
theorem jbv{b:List Ch}(d:b.length<=4)(h:∀ c∈b,allowed c=true):(big b.length 1++b.flatMap entry).length<256^4:=by grind [Ju,jm]
theorem Wm{bl:List (List Ch)}(h:j8 bl.flatten){b:List Ch}(c:b∈bl):j8 b:=h.sublist<|List.sublist_flatten_of_mem c
theorem Laid.block{bl:List (List Ch)}(h:Laid bl){b:List Ch}(g:bl[i]?=some b):Kp (Jg bl) (bl.flatMap jw).length (j3 0 bl) i=some b:=by
 have hi:i<bl.length:=(ZY.1 g).1;have d:=ZX g;have m:bl=bl.take i++b::bl.drop (i+1):=by grind [ZW,ZF]
 have p:Ew (j3 0 bl) i=((bl.take i).flatMap jw).length:=by grind [Ew,Jn]
 have es:Yx (bl.flatMap jw).length (j3 0 bl) i=((bl.take i).flatMap jw).length+(jw b).length:=by unfold Yx;rw[Jn];cases h2:bl[i+1]? with|some x=>grind|none=>grind
 have t:((Jg bl).take (((bl.take i).flatMap jw).length+(jw b).length)).drop ((bl.take i).flatMap jw).length=jw b:=by(have e:Jg bl=((bl.take i).flatMap jw++jw b)++((bl.drop (i+1)).flatMap jw++frame (big bl.length 2++(j3 0 bl).flatMap ym)++big (bl.flatMap jw).length 4):=by grind [Jg]);grind [List.drop_left]
 have s:xu (jw b)=some (big b.length 1++b.flatMap entry,[]):=by have:=Xw (big b.length 1++b.flatMap entry) []<|jbv (h.len b d).2<|h.ok b d;rwa [ZE] at this
 have r:=oi (h.len b d).1 (h.len b d).2 zC<|h.ok b d;have q:fits (j3 0 bl) i b=true:=by unfold fits;rw[ZR,ZR];refine⟨⟨?_,by simpa [j8] using Wm h.rising d⟩,?_⟩;(· simp[keyOf,Jn,g]);· rw[yd];by_cases hlast:i+1=bl.length;(· simp[hlast]);· rw[Bool.or_eq_true];refine .inr ?_;rw[ZR];refine⟨by simpa using h.full i b zC g,?_⟩;obtain⟨x,l⟩:∃ x,bl[i+1]?=some x:=⟨_,zS zC⟩;(have n:keyOf (j3 0 bl) (i+1)=Jo x:=by simp[keyOf,Jn,l]);rw[n];(have k:bl.drop (i+1)=x::bl.drop (i+2):=by grind [ZW]);have j:=h.rising;rw[m,k] at j;cases hxe:x with|nil=>have:=(h.len x (ZX l)).1;rw[hxe] at this;simp at this|cons c y=>have f:=(h.len b d).1;(have o:Kn b=(b.getLast (λe=>by rw[e] at f;simp at f)).key:=by grind [Kn]);rw[o];unfold j8 at j;rw[List.flatten_append,List.flatten_cons,List.flatten_cons,List.pairwise_append] at j;grind [Jo]
 grind [Kp]
theorem jbp(l:List Ch):∀(i:Nat) (b:List Ch),i+1<(chunks l).length->(chunks l)[i]?=some b->b.length=4:=by induction l using chunks.induct with|case1=>grind [chunks]|case2 a b' c d r ih=>grind [chunks]|case3 l h1 h2=>grind [chunks]
theorem jat{l:List Ch}(f:l≠[])(d:∀ c∈l,allowed c=true)(i:j8 l)(g:((chunks l).flatMap jw).length<256^4)(j:l.length<262140):Laid (chunks l):=⟨λe=>f<|jei.1 e,λb m=>tj m,jbp l,λb m c o=>d c<|Cq m c o,by rw[Xa];exact i,g,by rw[Zb];omega⟩
def ahead(ps:List (Nat×By))(k:By):Nat:=(ps.takeWhile (λp=>decide (p.2<k))).length
def mw(ps:List (Nat×By))(k:By):Nat :=
 if (ps[ahead ps k]?).map Prod.snd=some k then ahead ps k else ahead ps k-1
def qt(k:By)(c:Ch):Bool:=decide (¬c.key<k)
def jky(ps:List (Nat×By))(k:By):Prop:=∀ i p,ahead ps k<=i->ps[i]?=some p->¬p.2<k
theorem Ex(ps:List (Nat×By))(k:By):ahead ps k<=ps.length:=by have:=(List.takeWhile_sublist (λp:Nat×By=>decide (p.2<k)) (l:=ps)).length_le;exact this
theorem jbx(h:i<ahead ps k)(b:ps[i]?=some p):p.2<k:=by unfold ahead at h;induction ps generalizing i with|nil=>simp at h|cons x r ih=>by_cases hx:x.2<k;grind [List.takeWhile_cons_of_pos];simp_all
theorem jhw(b:ps[ahead ps k]?=some p):¬p.2<k:=by unfold ahead at b;induction ps with|nil=>simp at b|cons x r ih=>by_cases hx:x.2<k;simp_all;simp_all
theorem Laid.order{bl:List (List Ch)}(h:Laid bl){a b:List Ch}(g:bl[i]?=some a)(l:bl[j]?=some b)(k:i<j):∀ x∈a,∀ y∈b,x.key<y.key:=by have c:=h.rising;rw[<-ZF (i+1) bl,List.flatten_append] at c;unfold j8 at c;rw[List.pairwise_append] at c;intro x f y d;refine c.2.2 x (List.mem_flatten.2 ⟨a,?_,f⟩) y<|List.mem_flatten.2 ⟨b,?_,d⟩;rw[zR,g];simp;refine ZX (i:=j-(i+1)) ?_;grind
theorem bh{b:List Ch}(h:1<=b.length):∃ c∈b,Jo b=c.key:=by cases b with|nil=>simp at h|cons c r=>exact⟨c,xO,rfl⟩
theorem Laid.jnm{bl:List (List Ch)}(h:Laid bl)(k:By):jky (j3 0 bl) k:=by
 intro i p hi f;have c:i<(j3 0 bl).length:=(ZY.1 f).1;have b:ahead (j3 0 bl) k<(j3 0 bl).length:=zC;obtain⟨q,d⟩:∃ q,(j3 0 bl)[ahead (j3 0 bl) k]?=some q:=⟨_,zS b⟩;have m:=jhw d;by_cases e:ahead (j3 0 bl) k=i
 .simp_all
 .intro l;rw[yd] at c b;rw[Jn,zS b] at d;rw[Jn,zS c] at f;cases d;cases f;obtain⟨x,j,o⟩:=bh (h.len _<|ZL b).1;obtain⟨y,g,n⟩:=bh (h.len _<|ZL c).1;have:=h.order (zS b) (zS c) zC x j y g;grind
theorem Laid.jle{bl:List (List Ch)}(h:Laid bl)(k:By):∀ c∈(bl.take (mw (j3 0 bl) k)).flatten,c.key<k:=by
 intro c q;obtain⟨b,r,f⟩:=List.mem_flatten.1 q;obtain⟨j,m,e⟩:=XU r;rw[ZQ] at m;rw[List.getElem_take] at e;have p:=Ex (j3 0 bl) k;rw[yd] at p;have g:bl[j]?=some b:=zF;unfold mw at m;split at m;rename_i hf;have d:ahead (j3 0 bl) k<bl.length:=by grind [yd]
 rw[Jn,zS d] at hf;simp at hf;obtain⟨x,l,o⟩:=bh (h.len _<|ZL d).1;rw[o] at hf;rw[<-hf];exact h.order g (zS d) zC c f x l;have d:ahead (j3 0 bl) k-1<bl.length:=zC;have n:=jbx (ps:=j3 0 bl) (k:=k) (i:=ahead (j3 0 bl) k-1) zC (by rw[Jn,zS d];rfl);obtain⟨x,l,o⟩:=bh (h.len _<|ZL d).1;simp only at n;rw[o] at n;exact List.lt_trans (h.order g (zS d) zC c f x l) n
def Ay(l:By):Option (Nat×By):=if 8<=l.length/\number (l.take 8)<=2000000000 then some (number (l.take 8),l.drop 8)else none
def xi:Nat->List UInt8->Option (List Nat×List UInt8)
 | 0,l=>some ([],l)
 | n+1,l =>
  match Ay l with
  | none=>none
  | some (x,q) =>
   match xi n q with
   | none=>none
   | some (xs,q')=>some (x::xs,q')
theorem gk{xs:List Nat}:xi n l=some (xs,q)↔8*n<=l.length/\xs=Ji n l/\q=l.drop (8*n)/\∀ x∈xs,x<=2000000000:=by induction n generalizing l xs q with|zero=>grind [xi,Ji]|succ n ih=>unfold xi Ay;by_cases hc:8<=l.length/\number (l.take 8)<=2000000000;rw[if_pos hc];simp only;(cases h:xi n (l.drop 8)with|none=>simp only[reduceCtorEq,false_iff];rintro⟨c,rfl,rfl,b⟩;have:xi n (l.drop 8)=some (Ji n<|l.drop 8,(l.drop 8).drop (8*n)):=ih.2 ⟨by simp;omega,rfl,rfl,λx c=>b x<|by grind [Ji]⟩;simp_all|some y=>grind [Ji,XO]);grind [Ji]
def Xe(l:List UInt8):Option Man :=
 match xi 4 l with
 | some ([a,b,c,d],q) =>
  if 2<=q.length then
   match xi (number (q.take 2)) (q.drop 2)with
   | some (rs,[])=>some ⟨a,b,c,d,rs⟩
   | _=>none
  else none
 | _=>none
def jfg(l:List UInt8):Option Man :=
 match xu l with
 | some (h,[]) =>
  match Xe h with
  | some m=>if m.Good then some m else none
  | none=>none
 | _=>none
theorem Bp(l:By):Ji 4 l=[number (l.take 8),number ((l.drop 8).take 8),number ((l.drop 16).take 8),number ((l.drop 24).take 8)]:=by simp[Ji,XO]
theorem uq{h:By}{m:Man}(e:Xe h=some m):34<=h.length/\h.length=34+8*number ((h.drop 32).take 2)/\m=⟨number (h.take 8),number ((h.drop 8).take 8),number ((h.drop 16).take 8),number ((h.drop 24).take 8),Ji (number ((h.drop 32).take 2)) (h.drop 34)⟩/\m.next<=2000000000/\m.last<=2000000000:=by unfold Xe at e;cases h4:xi 4 h with|none=>rw[h4] at e;cases e|some y=>obtain⟨xs,q⟩:=y;obtain⟨k,a2,a3,a4⟩:=gk.1 h4;rw[Bp] at a2;subst a2;rw[h4] at e;simp only at e;split at e;(· rename_i h2;cases hr:xi (number<|q.take 2) (q.drop 2)with|none=>rw[hr] at e;cases e|some z=>obtain⟨rs,b⟩:=z;rw[hr] at e;cases b with|cons _ _=>cases e|nil=>simp only[Option.some.injEq] at e;obtain⟨j,i,c,g⟩:=gk.1 hr;subst a3;(have f:(h.drop 32).drop 2=h.drop 34:=by rw[XO]);have d:=congrArg List.length c;grind [xO]);cases e
theorem jjl(l:By):jfg l=Dm l:=by unfold jfg Dm;cases hf:xu l with|none=>rfl|some y=>obtain⟨h,q⟩:=y;cases q with|cons a b=>simp|nil=>simp only[true_and];cases hr:Xe h with|some m=>grind [uq]|none=>simp only;by_cases hc:34<=h.length/\h.length=34+8*number ((h.drop 32).take 2);rw[if_pos hc];by_cases hg:Man.Good ⟨number<|h.take 8,number<|(h.drop 8).take 8,number<|(h.drop 16).take 8,number<|(h.drop 24).take 8,Ji (number<|(h.drop 32).take 2)<|h.drop 34⟩;exfalso;obtain⟨k,j,p,o⟩:=hg;simp only at k j;(have c:∀ n∈Man.numbers ⟨number<|h.take 8,number<|(h.drop 8).take 8,number<|(h.drop 16).take 8,number<|(h.drop 24).take 8,Ji (number<|(h.drop 32).take 2)<|h.drop 34⟩,n<=2000000000:=λn m=>zF);have g:=c (number<|(h.drop 16).take 8) (by simp[Man.numbers]);(have f:number ((h.drop 24).take 8)<=2000000000:=by by_cases hb:number ((h.drop 24).take 8)=0;(· omega);· exact c _ (by simp[Man.numbers,Man.settled,hb]));(have d:∀ n∈Ji (number<|(h.drop 32).take 2) (h.drop 34),n<=2000000000:=λn m=>c n (by grind [Man.numbers,Man.settled]));have s:xi 4 h=some ([number (h.take 8),number ((h.drop 8).take 8),number ((h.drop 16).take 8),number ((h.drop 24).take 8)],h.drop 32):=gk.2 ⟨zC,(Bp h).symm,rfl,zF⟩;(have i:(h.drop 32).drop 2=h.drop 34:=by rw[XO]);have r:xi (number<|(h.drop 32).take 2) ((h.drop 32).drop 2)=some (Ji (number<|(h.drop 32).take 2)<|h.drop 34,[]):=gk.2 ⟨by simp;omega,by rw[i],zG,d⟩;grind [Xe];rw[if_neg hg];rw[if_neg hc]
