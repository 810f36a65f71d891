/-
-/
import Derived.Test.YtmjgfacoogdcdaaGreatDoorO01
import Derived.Test.YtmjgfacoogdcdaaGreatDoorProg
import Derived.WalkKit
import Derived.ProofKit
import Derived.Maps.RangeWalk
import Derived.Maps.Ext
set_option maxRecDepth 100000
set_option maxHeartbeats 8000000
set_option linter.all false
namespace Go.Proofs.YtmjgfacoogdcdaaGreatDoor
abbrev aD:=List Rf.Ch
section
open RowKit Maps Go.Proofs.Tryz
variable {p:Prop} {a w w':World} {b d n o:Nat} {c:Array Value} {T U:Nat->Prop} {e k:TypeId} {v:Value} {xs:List Value} {P:Program} {R:Value->Option (DataW Nat×List MemPlace)} {D:DataW Nat} {sr:Nat×Nat}
theorem zH(h:p:=by kernel_rfl):p:=h
theorem zI{A:Type}{a b:A}(h:a=b:=by kernel_rfl):some a=some b:=congrArg some h
theorem jb(h:p):Hid p:=h
structure ja(w w':World)(T:Nat->Prop):Prop where
 os:w'.os=w.os
 tape:w'.tape=w.tape
 output:w'.output=w.output
 size:w.heap.size<=w'.heap.size
 block:∀ k,k<w.heap.size->¬T k->w'.heap[k]?=w.heap[k]?
theorem ja.refl(w:World)(T:Nat->Prop):ja w w T:=⟨rfl,rfl,rfl,zR _,λ_ _ _=>rfl⟩
theorem ja.trans{b c:World}(h:ja a b T)(k:ja b c U)(d:∀ i,i<a.heap.size->U i->T i):ja a c T:=⟨k.os.trans h.os,k.tape.trans h.tape,k.output.trans h.output,zT h.size k.size,λi hi ht=>(k.block i (zU hi h.size) λhu=>ht<|d i hi hu).trans<|h.block i hi ht⟩
theorem ja.mono{b:World}(h:ja a b T)(c:∀ i,i<a.heap.size->T i->U i):ja a b U:=⟨h.os,h.tape,h.output,h.size,λi hi hu=>h.block i hi λht=>hu<|c i hi ht⟩
theorem ja.tt{b c:World}(h:ja a b T)(k:ja b c T):ja a c T:=h.trans k λ_ _ h=>id h
theorem ja.up{b:World}(h:ja a b No):ja a b T:=h.mono λ_ _ t=>(id t).elim
theorem ja.grown{row:Option Nat}(h:w.grownBy w' row):ja w w' (λi=>some i=row):=⟨h.os,h.tape,h.output,h.size,λi hi ht=>h.block i hi ht⟩
theorem ja.alloc(w:World)(o:Obj)(T:Nat->Prop):ja w (w.alloc o) T:=⟨rfl,rfl,rfl,zD,λk hk _=>Below.heap_alloc w o k hk⟩
theorem ja.drew(w:World)(T:Nat->Prop):ja w w.drew T:=⟨rfl,rfl,rfl,zR _,λ_ _ _=>rfl⟩
theorem ja.setCell(w:World)(a:Addr)(u:Value):ja w (w.setCell a u) (λi=>i=a.block):=⟨rfl,rfl,rfl,by simp[World.setCell],λk _ hk=>Below.heap_setCell _ _ _ _ hk⟩
theorem ja.set(h:ja a w T){p:Addr}(b:T p.block)(u:Value):ja a (w.setCell p u) T:=h.trans (ja.setCell w p u) λi _ hi=>hi▸b
theorem ja.Yb(h:ja a w T){p:Addr}(b:a.heap.size<=p.block)(u:Value):ja a (w.setCell p u) T:=h.trans (ja.setCell w p u) (λi hi e=>zC)
theorem ja.more(h:ja a w T)(o:Obj):ja a (w.alloc o) T:=h.tt<|ja.alloc w o T
theorem ja.draw(h:ja a w T):ja a w.drew T:=h.tt<|ja.drew w T
theorem ja.grow{row:Option Nat}(h:ja a w T)(c:w.grownBy w' row)(b:∀ k,row=some k->k<a.heap.size->T k):ja a w' T:=h.trans (ja.grown c) λi hi e=>b i e.symm hi
theorem ja.same(h:ja w w' T){k:Nat}{o:Obj}(c:w.heap[k]?=some o)(b:¬T k):w'.heap[k]?=some o:=(h.block k (Array.getElem?_eq_some_iff.1 c).1 b).trans c
theorem ja.row{base size:Nat}(i:ja w w' T)(h:w.ownsRow base e size v n xs)(b:∀ g,v.ownBlock=some g->¬T g):w'.ownsRow base e size v n xs:=by refine⟨h.1,?_⟩;obtain f|⟨g,cap,d,rfl,j,c,rest⟩:=h.2;exact .inl f;exact .inr ⟨g,cap,d,rfl,j,i.same c<|b g rfl,rest⟩
theorem ja.map(f:ja w w' T)(h:w.ownsMap P k R b n D)(d:¬T b):w'.ownsMap P k R b n D:=by obtain⟨es,c,g,r⟩:=h;exact⟨es,c,f.same g d,r⟩
theorem ja.cell(c:ja w w' T){a:Addr}(h:w.cell? a=some v)(b:¬T a.block):w'.cell? a=some v:=(World.cell?_of_block<|c.block a.block (xX w a h) b).trans h
theorem Qf(a:Addr)(j:Nat):(a.add j).block=a.block:=by unfold Addr.add;split<;>rfl
theorem jd(h:w.heap[b]?=some (.cells c e sr))(v:Value):(w.setCell (B3 b o) v).heap[b]?=some (.cells (c.setIfInBounds o v) e sr):=by grind [World.setCell]
theorem zM(h:w.heap[b]?=some (.cells c e sr)):w.cell? (B3 b o)=c[o]?:=by simp[World.cell?,h]
theorem zN(h:w.heap[b]?=some (.cells c e (0,0))):w.frozen? (B3 b o)=false:=by simp[World.frozen?,h]
theorem zK(o:Nat)(h:w.heap[b]?=some (.cells c e sr)):w.cell? (B3 b o)=c[o]?:=zM h
theorem zL(o:Nat)(h:w.heap[b]?=some (.cells c e (0,0))):w.frozen? (B3 b o)=false:=zN h
theorem zO{o:Obj}(h:w.heap[b]?=some o):b<w.heap.size:=(Array.getElem?_eq_some_iff.1 h).1
theorem je(w:World)(o:Obj):(w.alloc o).heap[w.heap.size]?=some o:=(MapKept.heap_alloc w o).1
theorem vq{d:World}(f:(w.alloc (.cells c e sr)).grownBy d (some b))(g:b<w.heap.size)(j:Nat):d.cell? (B3 w.heap.size j)=c[j]?:=by have h:=f.block w.heap.size zD (by simp;omega);grind [je,zM]
theorem Ye(h:w.heap[b]?=some (.cells c e sr))(x:Obj):(w.alloc x).cell? (B3 b o)=c[o]?:=zM<|(Below.heap_alloc w x b<|zO h).trans h
theorem qi{base base' size:Nat}(h:w.ownsRow base e size v n xs)(f:base'<=base):w.ownsRow base' e size v n xs:=by refine⟨h.1,?_⟩;obtain d|⟨g,cap,c,rfl,b,rest⟩:=h.2;exact .inl d;exact .inr ⟨g,cap,c,rfl,zT f b,rest⟩
abbrev Str:=List UInt8
abbrev jc(s:Str):Value:=.string ⟨s.toArray⟩
abbrev j7(x:UInt8):Value:=.int .u8 x.toNat
structure yr where
 bytes:List UInt8
 safe:Nat
 late:List (Nat×Nat)
structure Jh where
 make:Str
 src:Str
 dst:Str
 f:Option Nat
structure jg where
 names:DataW Nat
 safe:DataW Nat
 late:List Jh
 files:Nat->Option yr
 calls:Int
 fail:Int
 cut:Int
 wrote:Int
abbrev me(o:Option Nat):Value:=.pointer (o.map λb=>⟨b,0,none⟩)
def yf:Value->Option (DataW Nat×List MemPlace)
 | .pointer (some ⟨b,0,none⟩)=>some (.held b,[])
 | .pointer none=>some (.nil,[])
 | _=>none
def fileOf:DataW Nat->Option Nat
 | .held b=>some b
 | _=>none
def vg:Option Nat->DataW Nat
 | some b=>.held b
 | none=>.nil
theorem Rf(o:Option Nat):yf (me o)=some (vg o,[]):=by cases o<;>rfl
theorem Dh{z:DataW Nat×List MemPlace}(h:yf v=some z):v=me (fileOf z.1)/\z=(vg (fileOf z.1),[]):=by unfold yf at h;split at h;cases h;exact⟨rfl,rfl⟩;cases h;exact⟨rfl,rfl⟩;cases h
def zu(l:List (Nat×Nat)):List Value:=l.flatMap λp=>[aB p.1,aB p.2]
def xe(l:List Jh):List Value:=l.flatMap λc=>[jc c.make,jc c.src,jc c.dst,me c.f]
abbrev jz:=Nat×Nat
abbrev jz.none:jz:=(0,0)
abbrev jz.Jc:jz:=(1,0)
abbrev jz.names:jz:=(2,0)
abbrev jz.safe:jz:=(3,0)
abbrev jz.late:jz:=(4,0)
abbrev jz.file:jz:=(5,0)
abbrev jz.bytes(f:Nat):jz:=(6,f)
abbrev jz.pieces(f:Nat):jz:=(7,f)
def Lx(w:World)(ρ:Nat->jz)(f:Nat)(a:yr):Prop:=ρ f=.file/\∃ bv pv,w.heap[f]?=some (.cells #[bv,aB a.safe,pv] 95 (0,0))/\w.ownsRow 0 5 1 bv a.bytes.length (a.bytes.map j7)/\(∀ g,bv.ownBlock=some g->ρ g=.bytes f)/\w.ownsRow 0 180 2 pv a.late.length (zu a.late)/\(∀ g,pv.ownBlock=some g->ρ g=.pieces f)
def dq(D:DataW Nat)(files:Nat->Option yr):Prop:=∀ k,Maps.has D k=true->∃ f a,D.atKey k .nil=.held f/\files f=some a
def jbq(files:Nat->Option yr)(c:Jh):Prop :=
 c.make.length<1099511627776/\c.src.length<1099511627776/\c.dst.length<1099511627776/\(c.make≠[]\/c.dst≠[]->∃ f a,c.f=some f/\files f=some a)
structure Rep(w:World)(ρ:Nat->jz)(d:Nat)(S:jg):Prop where
 mem:∃ nm sm lv,w.heap[d]?=some (.cells #[.map (some nm),.map (some sm),lv,.int .i64 S.calls,.int .i64 S.fail,.int .i64 S.cut,.int .i64 S.wrote] 80 (0,0)) /\
  ρ nm=.names/\ρ sm=.safe/\w.ownsMap prog 9 yf nm (Maps.size S.names) S.names/\w.ownsMap prog 9 yf sm (Maps.size S.safe) S.safe /\
  w.ownsRow 0 206 4 lv S.late.length (xe S.late)/\(∀ g,lv.ownBlock=some g->ρ g=.late)
 Jc:ρ d = .Jc
 files:∀ f a,S.files f=some a->Lx w ρ f a
 Ad:dq S.names S.files
 py:dq S.safe S.files
 jgy:∀ c∈S.late,jbq S.files c
 lt:∀ i,ρ i≠.none->i<w.heap.size
 jhe:-1<=S.fail/\S.fail<=9223372036854775807
 jkg:-1<=S.cut/\S.cut<=9223372036854775807
structure Small(S:jg):Prop where
 names:Maps.size S.names<1099511627776
 safe:Maps.size S.safe<1099511627776
 late:S.late.length<1099511627776
 files:∀ f a,S.files f=some a->a.bytes.length<1099511627776/\a.late.length<1099511627776/\a.safe<1099511627776
structure xq(w:World)(ρ:Nat->jz)(w':World)(ρ':Nat->jz):Prop where
 keeps:ja w w' (λi=>ρ i≠.none)
 role:∀ i,i<w.heap.size->ρ' i=ρ i
theorem xq.refl(w:World)(ρ:Nat->jz):xq w ρ w ρ:=⟨ja.refl _ _,λ_ _=>rfl⟩
theorem xq.trans{b c:World}{r s t:Nat->jz}(h:xq a r b s)(k:xq b s c t):xq a r c t:=⟨h.keeps.trans k.keeps λi hi hs=>by rw[<-h.role i hi];exact hs,λi hi=>(k.role i<|zU hi h.keeps.size).trans<|h.role i hi⟩
theorem xq.of{ρ:Nat->jz}(h:ja w w' T)(b:∀ i,i<w.heap.size->T i->ρ i≠.none):xq w ρ w' ρ:=⟨h.mono b,λ_ _=>rfl⟩
theorem tight(h:w.ownsMap P k R b n D):w.ownsMap P k R b (Maps.size D) D:=by obtain⟨es,c,d,F,f,rfl⟩:=h;refine⟨es,c,d,F,?_,rfl⟩;simp[Maps.size,length_sorted]
theorem Lx.keep{ρ d:Nat->jz}{f:Nat}{a:yr}(h:Lx w ρ f a)(c:ja w w' T)(b:∀ i,i<w.heap.size->d i=ρ i)(r:¬T f)(q:∀ i,ρ i=.bytes f->¬T i)(p:∀ i,ρ i=.pieces f->¬T i):Lx w' d f a:=by obtain⟨o,bv,pv,m,n,k,l,j⟩:=h;refine⟨(b f<|zO m).trans o,bv,pv,c.same m r,c.row n λg hg=>q g<|k g hg,λg hg=>(b g (n.lt g hg).2).trans<|k g hg,c.row l λg hg=>p g<|j g hg,λg hg=>(b g (l.lt g hg).2).trans<|j g hg⟩
theorem Rep.keep{ρ:Nat->jz}{S:jg}(R:Rep w ρ d S)(c:ja w w' T)(u:∀ i,T i->i<w.heap.size->ρ i=.none):Rep w' ρ d S:=by
 obtain⟨⟨nm,k,lv,t,rn,rs,q,os,r,l⟩,n,m,s,p,lo,j,v,x⟩:=R;have b:∀ i,ρ i≠.none->¬T i:=λi hi ht=>hi<|u i ht<|j i hi
 refine⟨⟨nm,k,lv,c.same t<|b d<|by rw[n];decide,rn,rs,c.map q<|b nm<|by rw[rn];decide,c.map os<|b k<|by rw[rs];decide,c.row r λg hg=>b g<|by rw[l g hg];decide,l⟩,n,?_,s,p,lo,λi hi=>zU (j i hi) c.size,v,x⟩;intro f a o;exact(m f a o).keep c (λ_ _=>rfl) (b f<|by rw[(m f a o).1];decide) (λi hi=>b i zG) (λi hi=>b i zG)
theorem dq.mono{fs b:Nat->Option yr}(h:dq D fs)(d:∀ f a,fs f=some a->∃ a',b f=some a'):dq D b:=by intro k c;obtain⟨f,a,i,g⟩:=h k c;simp_all
theorem jbq.mono{c:Jh}{fs b:Nat->Option yr}(h:jbq fs c)(j:∀ f a,fs f=some a->∃ a',b f=some a'):jbq b c:=by obtain⟨i,g,d,k⟩:=h;refine⟨i,g,d,λh=>?_⟩;grind
def jg.bad(S:jg):Bool:=S.fail==0||S.cut==0
theorem jeh(d:Nat)(nm f lv:Value)(cs b c wr:Int)(g:Bool)(w:World)(h:w.heap[d]?=some (.cells #[nm,f,lv,aB cs,aB b,aB c,aB wr] 80 (0,0)))(j:-1<=b/\b<=9223372036854775807)(k:-1<=c/\c<=9223372036854775807):Calls prog 66 #[aA d,.bool g] w λe w'=>e=.returned (.bool (b==0||c==0))/\w'.heap[d]?=some (.cells #[nm,f,lv,aB (wrap64 (cs+1)),aB (if 0<=b then b-1 else b),aB (if 0<c then c-1 else c),aB (if g then wrap64 (wr+1)else wr)] 80 (0,0))/\ja w w' (λi=>i=d):=by
 have o:=zK 3 h;have n:=zK 4 h;have m:=zK 5 h;have l:=zK 6 h;have x:=zL 3 h;have v:=zL 4 h;have u:=zL 5 h;have t:=zL 6 h;simp at o n m l;obtain⟨q,p⟩:=j;obtain⟨s,r⟩:=k;have H:Hid (w.heap[d]?=_):=h;clear h;go_enter func66,ntmps66;go_wp2;all_goals go_ret
 all_goals exact⟨rfl,by have h:=H.out;simp[World.setCell,Array.getElem?_modify,h],by grind [ja.refl,ja.set]⟩
def jg.called(S:jg)(ch:Bool):jg :=
 { S with calls:=wrap64 (S.calls+1),fail:=if 0<=S.fail then S.fail-1 else S.fail,cut:=if 0<S.cut then S.cut-1 else S.cut,wrote:=if ch then wrap64 (S.wrote+1)else S.wrote }
theorem zy{ρ:Nat->jz}{S:jg}(j:Bool)(R:Rep w ρ d S):Calls prog 66 #[aA d,.bool j] w λe w'=>e=.returned (.bool S.bad)/\Rep w' ρ d (S.called j)/\xq w ρ w' ρ:=by
 obtain⟨⟨nm,m,lv,v,rn,rs,s,os,t,n⟩,p,o,u,r,lo,k,x,y⟩:=R;refine(jeh d _ _ lv S.calls S.fail S.cut S.wrote j w v x y).mono ?_;rintro e w' ⟨rfl,l,c⟩;have b:∀ i,ρ i≠ .Jc->¬i=d:=λi hi e=>hi (e▸p)
 refine⟨rfl,⟨⟨nm,m,lv,l,rn,rs,c.map s<|b nm<|by rw[rn];decide,c.map os<|b m<|by rw[rs];decide,c.row t λg hg=>b g<|by rw[n g hg];decide,n⟩,p,?_,u,r,lo,λi hi=>zU (k i hi) c.size,?_,?_⟩,?_⟩;intro f a q;exact(o f a q).keep c (λ_ _=>rfl) (b f<|by rw[(o f a q).1];decide) (λi hi=>b i zG) (λi hi=>b i zG);grind [jg.called];grind [jg.called];grind [xq.of]
theorem Small.called{S:jg}(h:Small S)(b:Bool):Small (S.called b):=⟨h.names,h.safe,h.late,h.files⟩
end
section
open RowKit Maps WideShapes Go.Proofs.Tryz
theorem law:Keyed prog 9:=string_keyed underlying9
def doA(D:DataW Nat)(c:Jh):DataW Nat :=
 if c.make.isEmpty=false then D.put (.string c.make) (vg c.f)
 else if c.dst.isEmpty=false then(if c.dst≠c.src then(D.put (.string c.dst) (vg c.f)).del (.string c.src)else D.put (.string c.dst) (vg c.f))
 else D.del (.string c.src)
theorem Zv{s:Str}(h:s.length<1099511627776):keyOf prog 9 (jc s)=some (.string s):=WideMaps.keyOf_string_mk (s:=⟨s.toArray⟩) underlying9 (by show s.toArray.size<=maxLen;unfold maxLen;simp;omega)
theorem jhl(b n:Nat)(D:DataW Nat)(l sr k:Str)(f:Option Nat)(w:World)(g:w.ownsMap prog 9 yf b n D)(z:n<1099511627776)(x:l.length<1099511627776)(y:sr.length<1099511627776)(v:k.length<1099511627776):Calls prog 135 #[.map (some b),.agg #[jc l,jc sr,jc k,me f]] w λe w'=>e=.returned (.tuple #[])/\w'.ownsMap prog 9 yf b (n+1) (doA D ⟨l,sr,k,f⟩)/\ja w w' (λi=>i=b):=by
 have s:=Zv x;have o:=Zv y;have r:=Zv v;have t:=Rf f;have p:=g.lt;go_enter func135,ntmps135;go_wp2_with (first|(at_mapUpdate;refine wpList_mapUpdate_own _ rfl (.tmp 11) (.tmp 13) (.tmp 15) 77 rfl 9 91 law underlying77 _ b n _ rfl (g.alloc _) (by unfold maxLen;omega) _ _ _ rfl rfl s _ [] t ?_;intro q c j)|(at_mapUpdate;refine wpList_mapUpdate_own _ rfl (.tmp 20) (.tmp 22) (.tmp 24) 77 rfl 9 91 law underlying77 _ b n _ rfl (g.alloc _) (by unfold maxLen;omega) _ _ _ rfl rfl r _ [] t ?_;intro q c j;have B:q.cell? (B3 w.heap.size 1)=some (jc sr):=(vq j p _);have A:q.cell? (B3 w.heap.size 2)=some (jc k):=(vq j p _))|(at_delete;refine wpList_delete_own _ rfl (.tmp 30) (.tmp 32) 77 9 rfl 91 law underlying77 _ b _ _ rfl c _ _ rfl o ?_;intro u d m)|(at_delete;refine wpList_delete_own _ rfl (.tmp 4) (.tmp 6) 77 9 rfl 91 law underlying77 _ b n _ rfl (g.alloc _) _ _ rfl o ?_;intro u d m)|go_in);all_goals go_end0
 refine⟨rfl,?_,((ja.refl w _).more _).grow j zD⟩;have e:doA D ⟨l,sr,k,f⟩=D.put (.string l) (vg f):=by simp_all [doA]
 rw[e];exact c;refine⟨rfl,?_,(((ja.refl w _).more _).grow j zD).grow m.grown zD⟩;have e:doA D ⟨l,sr,k,f⟩=(D.put (.string k)<|vg f).del (.string sr):=by simp_all [doA]
 rw[e];exact d;refine⟨rfl,?_,((ja.refl w _).more _).grow j zD⟩;have e:doA D ⟨l,sr,k,f⟩=D.put (.string k) (vg f):=by simp_all [doA]
 rw[e];exact c;refine⟨rfl,?_,((ja.refl w _).more _).grow m.grown zD⟩;have e:doA D ⟨l,sr,k,f⟩=D.del (.string sr):=by simp_all [doA]
 rw[e];exact d.mono<|Nat.le_succ _
end
