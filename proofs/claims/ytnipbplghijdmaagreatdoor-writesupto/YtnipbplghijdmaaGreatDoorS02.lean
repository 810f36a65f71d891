/-
  S: Mem Call Do.
-/
import Derived.Test.YtnipbplghijdmaaGreatDoorS01
import Derived.Test.YtnipbplghijdmaaGreatDoorProg
import Derived.WalkKit
import Derived.ProofKit
import Derived.Maps.RangeWalk
import Derived.Maps.Ext
set_option maxRecDepth 100000
set_option maxHeartbeats 8000000
set_option linter.unusedVariables false
set_option linter.unusedSimpArgs false
namespace Go.Proofs.YtnipbplghijdmaaGreatDoor
open RowKit Maps Go.Proofs.Tryz
variable {a w w':World} {b d n o:Nat} {c:Array Value} {T U:Nat->Prop} {p:Addr} {e k:TypeId} {v:Value} {xs:List Value} {P:Program} {R:Value->Option (DataW Nat×List MemPlace)} {D:DataW Nat} {sr:Nat×Nat}
theorem jb{p:Prop}(h:p):Hid p:=h
structure ja(w w':World)(T:Nat->Prop):Prop where
 os:w'.os=w.os
 tape:w'.tape=w.tape
 output:w'.output=w.output
 size:w.heap.size<=w'.heap.size
 block:∀ k,k<w.heap.size->¬T k->w'.heap[k]?=w.heap[k]?
theorem ja.refl(w:World)(T:Nat->Prop):ja w w T:=⟨rfl,rfl,rfl,xA _,fun _ _ _=>rfl⟩
theorem ja.trans{b c:World}(h:ja a b T)(k:ja b c U)(d:∀ i,i<a.heap.size->U i->T i):ja a c T :=
 ⟨k.os.trans h.os,k.tape.trans h.tape,k.output.trans h.output,ZF h.size k.size,
  fun i hi ht=>(k.block i (zT hi h.size) (fun hu=>ht (d i hi hu))).trans (h.block i hi ht)⟩
theorem ja.mono{b:World}(h:ja a b T)(c:∀ i,i<a.heap.size->T i->U i):ja a b U :=
 ⟨h.os,h.tape,h.output,h.size,fun i hi hu=>h.block i hi (fun ht=>hu (c i hi ht))⟩
theorem ja.tt{b c:World}(h:ja a b T)(k:ja b c T):ja a c T:=h.trans k (fun _ _ h=>id h)
theorem ja.up{b:World}(h:ja a b (fun _=>False)):ja a b T:=h.mono (fun _ _ t=>(id t).elim)
theorem ja.grown{row:Option Nat}(h:w.grownBy w' row):ja w w' (fun i=>some i=row) :=
 ⟨h.os,h.tape,h.output,h.size,fun i hi ht=>h.block i hi ht⟩
theorem ja.alloc(w:World)(o:Obj)(T:Nat->Prop):ja w (w.alloc o) T :=
 ⟨rfl,rfl,rfl,by simp,fun k hk _=>Below.heap_alloc w o k hk⟩
theorem ja.drew(w:World)(T:Nat->Prop):ja w w.drew T:=⟨rfl,rfl,rfl,xA _,fun _ _ _=>rfl⟩
theorem ja.setCell(w:World)(a:Addr)(u:Value):ja w (w.setCell a u) (fun i=>i=a.block) :=
 ⟨rfl,rfl,rfl,by simp[World.setCell],fun k _ hk=>Below.heap_setCell _ _ _ _ hk⟩
theorem ja.set(h:ja a w T)(b:T p.block)(u:Value):ja a (w.setCell p u) T:=h.trans (ja.setCell w p u) (fun i _ hi=>hi▸b)
theorem ja.Xd(h:ja a w T)(b:a.heap.size<=p.block)(u:Value):ja a (w.setCell p u) T:=h.trans (ja.setCell w p u) (fun i hi e=>by omega)
theorem ja.more(h:ja a w T)(o:Obj):ja a (w.alloc o) T:=h.tt (ja.alloc w o T)
theorem ja.draw(h:ja a w T):ja a w.drew T:=h.tt (ja.drew w T)
theorem ja.grow{row:Option Nat}(h:ja a w T)(c:w.grownBy w' row)(b:∀ k,row=some k->k<a.heap.size->T k):ja a w' T :=
 h.trans (ja.grown c) (fun i hi e=>b i e.symm hi)
theorem ja.same(h:ja w w' T){k:Nat}{o:Obj}(c:w.heap[k]?=some o)(b:¬T k):w'.heap[k]?=some o:=(h.block k (Array.getElem?_eq_some_iff.1 c).1 b).trans c
theorem ja.row{base size:Nat}(i:ja w w' T)(h:w.ownsRow base e size v n xs)(b:∀ g,v.ownBlock=some g->¬T g):w'.ownsRow base e size v n xs:=by
 refine⟨h.1,?_⟩;rcases h.2 with f|⟨g,cap,d,rfl,j,c,rest⟩
 ·exact .inl f
 ·exact .inr ⟨g,cap,d,rfl,j,i.same c (b g rfl),rest⟩
theorem ja.map(f:ja w w' T)(h:w.ownsMap P k R b n D)(d:¬T b):w'.ownsMap P k R b n D:=by
 obtain⟨es,c,g,r⟩:=h;exact⟨es,c,f.same g d,r⟩
theorem ja.cell(c:ja w w' T){a:Addr}(h:w.cell? a=some v)(b:¬T a.block):w'.cell? a=some v :=
 (World.cell?_of_block (c.block a.block (zM w a h) b)).trans h
theorem Jp(a:Addr)(j:Nat):(a.add j).block=a.block:=by unfold Addr.add;split<;>rfl
theorem jc(h:w.heap[b]?=some (.cells c e sr))(v:Value) :
 (w.setCell ⟨b,o,none⟩ v).heap[b]?=some (.cells (c.setIfInBounds o v) e sr):=by
 simp[World.setCell,Array.getElem?_modify,h]
theorem zA(h:w.heap[b]?=some (.cells c e sr)):w.cell? ⟨b,o,none⟩=c[o]?:=by
 simp[World.cell?,h]
theorem zB(h:w.heap[b]?=some (.cells c e (0,0))):w.frozen? ⟨b,o,none⟩=false:=by
 simp[World.frozen?,h]
theorem zC{o:Obj}(h:w.heap[b]?=some o):b<w.heap.size:=(Array.getElem?_eq_some_iff.1 h).1
theorem je(w:World)(o:Obj):(w.alloc o).heap[w.heap.size]?=some o:=(MapKept.heap_alloc w o).1
theorem o8{d:World}(f:(w.alloc (.cells c e sr)).grownBy d (some b))(g:b<w.heap.size)(j:Nat):d.cell? ⟨w.heap.size,j,none⟩=c[j]?:=by
 have h:=f.block w.heap.size (by simp) (by simp;omega);rw[je] at h;exact zA h
theorem Q6(h:w.heap[b]?=some (.cells c e sr))(x:Obj):(w.alloc x).cell? ⟨b,o,none⟩=c[o]? :=
 zA ((Below.heap_alloc w x b (zC h)).trans h)
theorem qg{base base' size:Nat}(h:w.ownsRow base e size v n xs)(f:base'<=base):w.ownsRow base' e size v n xs:=by
 refine⟨h.1,?_⟩;rcases h.2 with d|⟨g,cap,c,rfl,b,rest⟩
 ·exact .inl d
 ·exact .inr ⟨g,cap,c,rfl,ZF f b,rest⟩
abbrev Str:=List UInt8
abbrev jd(s:Str):Value:= .string ⟨s.toArray⟩
abbrev j6(x:UInt8):Value:= .int .u8 x.toNat
structure ye where
 bytes:List UInt8
 safe:Nat
 late:List (Nat×Nat)
structure zt where
 make:Str
 src:Str
 dst:Str
 f:Option Nat
structure jh where
 names:DataW Nat
 safe:DataW Nat
 late:List zt
 files:Nat->Option ye
 calls:Int
 fail:Int
 cut:Int
 wrote:Int
abbrev fo(o:Option Nat):Value:= .pointer (o.map fun b=>⟨b,0,none⟩)
def zj:Value->Option (DataW Nat×List MemPlace)
 | .pointer (some ⟨b,0,none⟩)=>some (.held b,[])
 | .pointer none=>some (.nil,[])
 | _=>none
def fileOf:DataW Nat->Option Nat
 | .held b=>some b
 | _=>none
def ov:Option Nat->DataW Nat
 | some b=> .held b
 | none=> .nil
theorem Mi(o:Option Nat):zj (fo o)=some (ov o,[]):=by cases o<;>rfl
theorem Ab{z:DataW Nat×List MemPlace}(h:zj v=some z):v=fo (fileOf z.1)/\z=(ov (fileOf z.1),[]):=by
 unfold zj at h
 split at h
 ·cases h;exact⟨rfl,rfl⟩
 ·cases h;exact⟨rfl,rfl⟩
 ·cases h
def y9(l:List (Nat×Nat)):List Value:=l.flatMap fun p=>[.int .i64 p.1,.int .i64 p.2]
def qu(l:List zt):List Value:=l.flatMap fun c=>[jd c.make,jd c.src,jd c.dst,fo c.f]
abbrev jz:=Nat×Nat
abbrev jz.none:jz:=(0,0)
abbrev jz.zw:jz:=(1,0)
abbrev jz.names:jz:=(2,0)
abbrev jz.safe:jz:=(3,0)
abbrev jz.late:jz:=(4,0)
abbrev jz.file:jz:=(5,0)
abbrev jz.bytes(f:Nat):jz:=(6,f)
abbrev jz.pieces(f:Nat):jz:=(7,f)
def Hf(w:World)(ρ:Nat->jz)(f:Nat)(a:ye):Prop :=
 ρ f = .file/\∃ bv pv,w.heap[f]?=some (.cells #[bv,.int .i64 a.safe,pv] 154 (0,0)) /\
  w.ownsRow 0 5 1 bv a.bytes.length (a.bytes.map j6)/\(∀ g,bv.ownBlock=some g->ρ g = .bytes f) /\
  w.ownsRow 0 192 2 pv a.late.length (y9 a.late)/\(∀ g,pv.ownBlock=some g->ρ g = .pieces f)
def cw(D:DataW Nat)(files:Nat->Option ye):Prop:=∀ k,Maps.has D k=true->∃ f a,D.atKey k .nil = .held f/\files f=some a
def Tx(files:Nat->Option ye)(c:zt):Prop :=
 c.make.length<1099511627776/\c.src.length<1099511627776/\c.dst.length<1099511627776/\(c.make≠[]\/c.dst≠[]->∃ f a,c.f=some f/\files f=some a)
structure Rep(w:World)(ρ:Nat->jz)(d:Nat)(S:jh):Prop where
 mem:∃ nm sm lv,w.heap[d]?=some (.cells #[.map (some nm),.map (some sm),lv,.int .i64 S.calls,.int .i64 S.fail,.int .i64 S.cut,.int .i64 S.wrote] 101 (0,0)) /\
  ρ nm = .names/\ρ sm = .safe/\w.ownsMap prog 9 zj nm (Maps.size S.names) S.names/\w.ownsMap prog 9 zj sm (Maps.size S.safe) S.safe /\
  w.ownsRow 0 148 4 lv S.late.length (qu S.late)/\(∀ g,lv.ownBlock=some g->ρ g = .late)
 zw:ρ d = .zw
 files:∀ f a,S.files f=some a->Hf w ρ f a
 vz:cw S.names S.files
 ix:cw S.safe S.files
 jca:∀ c∈S.late,Tx S.files c
 lt:∀ i,ρ i≠ .none->i<w.heap.size
 jf0:-1<=S.fail/\S.fail<=9223372036854775807
 jgk:-1<=S.cut/\S.cut<=9223372036854775807
structure Small(S:jh):Prop where
 names:Maps.size S.names<1099511627776
 safe:Maps.size S.safe<1099511627776
 late:S.late.length<1099511627776
 files:∀ f a,S.files f=some a->a.bytes.length<1099511627776/\a.late.length<1099511627776/\a.safe<1099511627776
structure xo(w:World)(ρ:Nat->jz)(w':World)(ρ':Nat->jz):Prop where
 keeps:ja w w' (fun i=>ρ i≠ .none)
 role:∀ i,i<w.heap.size->ρ' i=ρ i
theorem xo.refl(w:World)(ρ:Nat->jz):xo w ρ w ρ:=⟨ja.refl _ _,fun _ _=>rfl⟩
theorem xo.trans{b c:World}{r s t:Nat->jz}(h:xo a r b s)(k:xo b s c t):xo a r c t :=
 ⟨h.keeps.trans k.keeps (fun i hi hs=>by rw[<-h.role i hi];exact hs),fun i hi=>(k.role i (zT hi h.keeps.size)).trans (h.role i hi)⟩
theorem xo.of{ρ:Nat->jz}(h:ja w w' T)(b:∀ i,i<w.heap.size->T i->ρ i≠ .none):xo w ρ w' ρ:=⟨h.mono b,fun _ _=>rfl⟩
theorem tight(h:w.ownsMap P k R b n D):w.ownsMap P k R b (Maps.size D) D:=by
 obtain⟨es,c,d,F,f,rfl⟩:=h;refine⟨es,c,d,F,?_,rfl⟩;simp[Maps.size,length_sorted]
theorem Hf.keep{ρ d:Nat->jz}{f:Nat}{a:ye}(h:Hf w ρ f a)(c:ja w w' T)(b:∀ i,i<w.heap.size->d i=ρ i)(r:¬T f)(q:∀ i,ρ i = .bytes f->¬T i)(p:∀ i,ρ i = .pieces f->¬T i):Hf w' d f a:=by
 obtain⟨o,bv,pv,m,n,k,l,j⟩:=h;refine⟨(b f (zC m)).trans o,bv,pv,c.same m r,c.row n (fun g hg=>q g (k g hg)),fun g hg=>(b g (n.lt g hg).2).trans (k g hg),c.row l (fun g hg=>p g (j g hg)),fun g hg=>(b g (l.lt g hg).2).trans (j g hg)⟩
theorem Rep.keep{ρ:Nat->jz}{S:jh}(R:Rep w ρ d S)(c:ja w w' T)(v:∀ i,T i->i<w.heap.size->ρ i = .none):Rep w' ρ d S:=by
 obtain⟨⟨nm,k,lv,u,l,rs,r,os,s,m⟩,o,n,t,q,lo,j,x,y⟩:=R;have b:∀ i,ρ i≠ .none->¬T i:=fun i hi ht=>hi (v i ht (j i hi));refine⟨⟨nm,k,lv,c.same u (b d (by rw[o];decide)),l,rs,c.map r (b nm (by rw[l];decide)),c.map os (b k (by rw[rs];decide)),c.row s (fun g hg=>b g (by rw[m g hg];decide)),m⟩,o,?_,t,q,lo,fun i hi=>zT (j i hi) c.size,x,y⟩;intro f a p;exact(n f a p).keep c (fun _ _=>rfl) (b f (by rw[(n f a p).1];decide)) (fun i hi=>b i (by rw[hi];exact fun h=>by cases h)) (fun i hi=>b i (by rw[hi];exact fun h=>by cases h))
theorem cw.mono{fs b:Nat->Option ye}(h:cw D fs)(d:∀ f a,fs f=some a->∃ a',b f=some a'):cw D b:=by
 intro k c;obtain⟨f,a,j,i⟩:=h k c;obtain⟨a',g⟩:=d f a i;exact⟨f,a',j,g⟩
theorem Tx.mono{c:zt}{fs b:Nat->Option ye}(h:Tx fs c)(d:∀ f a,fs f=some a->∃ a',b f=some a'):Tx b c:=by
 obtain⟨m,l,k,j⟩:=h;refine⟨m,l,k,fun h=>?_⟩;obtain⟨f,a,e,i⟩:=j h;obtain⟨a',g⟩:=d f a i;exact⟨f,a',e,g⟩
def jh.bad(S:jh):Bool:=S.fail==0||S.cut==0
theorem Wy(d:Nat)(nm f lv:Value)(cs b c wr:Int)(g:Bool)(w:World)(h:w.heap[d]?=some (.cells #[nm,f,lv,.int .i64 cs,.int .i64 b,.int .i64 c,.int .i64 wr] 101 (0,0)))(j:-1<=b/\b<=9223372036854775807)(k:-1<=c/\c<=9223372036854775807) :
 Calls prog 102 #[.pointer (some ⟨d,0,none⟩),.bool g] w fun e w'=>e = .returned (.bool (b==0||c==0)) /\
  w'.heap[d]?=some (.cells #[nm,f,lv,.int .i64 (wrap64 (cs+1)),.int .i64 (if 0<=b then b-1 else b),.int .i64 (if 0<c then c-1 else c),.int .i64 (if g then wrap64 (wr+1)else wr)] 101 (0,0)) /\
  ja w w' (fun i=>i=d):=by
 have p:=zA (o:=3) h;have n:=zA (o:=4) h;have m:=zA (o:=5) h;have l:=zA (o:=6) h;have y:=zB (o:=3) h;have x:=zB (o:=4) h;have v:=zB (o:=5) h;have u:=zB (o:=6) h;simp at p n m l;obtain⟨r,q⟩:=j;obtain⟨t,s⟩:=k;have H:Hid (w.heap[d]?=_):=h;clear h;go_enter func102,ntmps102;go_wp2
 all_goals go_ret
 all_goals exact⟨rfl,by have h:=H.out;simp[World.setCell,Array.getElem?_modify,h],by repeat (first|exact ja.refl _ _|refine ja.set ?_ (by exact rfl) _)⟩
def jh.called(S:jh)(ch:Bool):jh :=
 { S with calls:=wrap64 (S.calls+1),fail:=if 0<=S.fail then S.fail-1 else S.fail,cut:=if 0<S.cut then S.cut-1 else S.cut,wrote:=if ch then wrap64 (S.wrote+1)else S.wrote }
theorem zh{ρ:Nat->jz}{S:jh}(k:Bool)(R:Rep w ρ d S) :
 Calls prog 102 #[.pointer (some ⟨d,0,none⟩),.bool k] w fun e w'=>e = .returned (.bool S.bad)/\Rep w' ρ d (S.called k)/\xo w ρ w' ρ:=by
 obtain⟨⟨nm,n,lv,x,o,rs,t,os,u,p⟩,j,q,v,s,lo,l,y,z⟩:=R;refine(Wy d _ _ lv S.calls S.fail S.cut S.wrote k w x y z).mono ?_;rintro e w' ⟨rfl,m,c⟩;have b:∀ i,ρ i≠ .zw->¬i=d:=fun i hi e=>hi (e▸j);refine⟨rfl,⟨⟨nm,n,lv,m,o,rs,c.map t (b nm (by rw[o];decide)),c.map os (b n (by rw[rs];decide)),c.row u (fun g hg=>b g (by rw[p g hg];decide)),p⟩,j,?_,v,s,lo,fun i hi=>zT (l i hi) c.size,?_,?_⟩,?_⟩
 ·intro f a r
  exact(q f a r).keep c (fun _ _=>rfl) (b f (by rw[(q f a r).1];decide)) (fun i hi=>b i (by rw[hi];exact fun h=>by cases h)) (fun i hi=>b i (by rw[hi];exact fun h=>by cases h))
 ·simp only[jh.called];split<;>omega
 ·simp only[jh.called];split<;>omega
 ·exact xo.of c (fun i _ e=>by rw[e,j];decide)
theorem Small.called{S:jh}(h:Small S)(b:Bool):Small (S.called b):=⟨h.names,h.safe,h.late,h.files⟩
end Go.Proofs.YtnipbplghijdmaaGreatDoor
namespace Go.Proofs.YtnipbplghijdmaaGreatDoor
open RowKit Maps WideShapes Go.Proofs.Tryz
theorem law:Keyed prog 9:=string_keyed underlying9
def doA(D:DataW Nat)(c:zt):DataW Nat :=
 if c.make.isEmpty=false then D.put (.string c.make) (ov c.f)
 else if c.dst.isEmpty=false then(if c.dst≠c.src then(D.put (.string c.dst) (ov c.f)).del (.string c.src)else D.put (.string c.dst) (ov c.f))
 else D.del (.string c.src)
theorem Y9{s:Str}(h:s.length<1099511627776):keyOf prog 9 (jd s)=some (.string s) :=
 WideMaps.keyOf_string_mk (s:=⟨s.toArray⟩) underlying9 (by show s.toArray.size<=maxLen;unfold maxLen;simp;omega)
theorem jct(b n:Nat)(D:DataW Nat)(l sr k:Str)(f:Option Nat)(w:World)(g:w.ownsMap prog 9 zj b n D)(z:n<1099511627776)(x:l.length<1099511627776)(y:sr.length<1099511627776)(v:k.length<1099511627776) :
 Calls prog 81 #[.map (some b),.agg #[jd l,jd sr,jd k,fo f]] w fun e w'=>e = .returned (.tuple #[]) /\
  w'.ownsMap prog 9 zj b (n+1) (doA D ⟨l,sr,k,f⟩)/\ja w w' (fun i=>i=b):=by
 have s:=Y9 x;have o:=Y9 y;have r:=Y9 v;have t:=Mi f;have p:=g.lt;go_enter func81,ntmps81
 go_wp2_with (first
  | (at_mapUpdate;refine wpList_mapUpdate_own _ rfl (.tmp 11) (.tmp 13) (.tmp 15) 98 rfl 9 146 law underlying98 _ b n _ rfl (g.alloc _) (by unfold maxLen;omega) _ _ _ rfl rfl s _ [] t ?_;intro q c j)
  | (at_mapUpdate;refine wpList_mapUpdate_own _ rfl (.tmp 20) (.tmp 22) (.tmp 24) 98 rfl 9 146 law underlying98 _ b n _ rfl (g.alloc _) (by unfold maxLen;omega) _ _ _ rfl rfl r _ [] t ?_;intro q c j;have B:q.cell? ⟨w.heap.size,1,none⟩=some (jd sr):=(o8 j p _);have A:q.cell? ⟨w.heap.size,2,none⟩=some (jd k):=(o8 j p _))
  | (at_delete;refine wpList_delete_own _ rfl (.tmp 30) (.tmp 32) 98 9 rfl 146 law underlying98 _ b _ _ rfl c _ _ rfl o ?_;intro u d m)
  | (at_delete;refine wpList_delete_own _ rfl (.tmp 4) (.tmp 6) 98 9 rfl 146 law underlying98 _ b n _ rfl (g.alloc _) _ _ rfl o ?_;intro u d m)
  | go_in)
 all_goals go_end0
 ·refine⟨rfl,?_,((ja.refl w _).more _).grow j (by simp)⟩
  have e:doA D ⟨l,sr,k,f⟩=D.put (.string l) (ov f):=by simp_all [doA]
  rw[e];exact c
 ·refine⟨rfl,?_,(((ja.refl w _).more _).grow j (by simp)).grow m.grown (by simp)⟩
  have e:doA D ⟨l,sr,k,f⟩=(D.put (.string k) (ov f)).del (.string sr):=by simp_all [doA]
  rw[e];exact d
 ·refine⟨rfl,?_,((ja.refl w _).more _).grow j (by simp)⟩
  have e:doA D ⟨l,sr,k,f⟩=D.put (.string k) (ov f):=by simp_all [doA]
  rw[e];exact c
 ·refine⟨rfl,?_,((ja.refl w _).more _).grow m.grown (by simp)⟩
  have e:doA D ⟨l,sr,k,f⟩=D.del (.string sr):=by simp_all [doA]
  rw[e];exact d.mono (Nat.le_succ _)
end Go.Proofs.YtnipbplghijdmaaGreatDoor
