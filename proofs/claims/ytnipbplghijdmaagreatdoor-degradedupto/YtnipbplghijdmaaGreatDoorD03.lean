/-
  D: Mem Call Do.
-/
import Derived.Test.YtnipbplghijdmaaGreatDoorD01
import Derived.Test.YtnipbplghijdmaaGreatDoorProg
import Derived.WalkKit
import Derived.ProofKit
import Derived.Maps.RangeWalk
import Derived.Maps.Ext
set_option maxRecDepth 100000
set_option maxHeartbeats 8000000
set_option linter.unusedVariables false
set_option linter.unusedSimpArgs false
namespace Go.Proofs.YtnipbplghijdmaaGreatDoor
open RowKit Maps Go.Proofs.Tryz
variable {a w w':World} {b d n o:Nat} {c:Array Value} {T U:Nat->Prop} {p:Addr} {e k:TypeId} {v:Value} {xs:List Value} {P:Program} {R:Value->Option (DataW Nat×List MemPlace)} {D:DataW Nat} {sr:Nat×Nat}
theorem jb{p:Prop}(h:p):Hid p:=h
structure ja(w w':World)(T:Nat->Prop):Prop where
 os:w'.os=w.os
 tape:w'.tape=w.tape
 output:w'.output=w.output
 size:w.heap.size<=w'.heap.size
 block:∀ k,k<w.heap.size->¬T k->w'.heap[k]?=w.heap[k]?
theorem ja.refl(w:World)(T:Nat->Prop):ja w w T:=⟨rfl,rfl,rfl,zJ _,fun _ _ _=>rfl⟩
theorem ja.trans{b c:World}(h:ja a b T)(k:ja b c U)(d:∀ i,i<a.heap.size->U i->T i):ja a c T :=
 ⟨k.os.trans h.os,k.tape.trans h.tape,k.output.trans h.output,ZI h.size k.size,
  fun i hi ht=>(k.block i (ZH hi h.size) (fun hu=>ht (d i hi hu))).trans (h.block i hi ht)⟩
theorem ja.mono{b:World}(h:ja a b T)(c:∀ i,i<a.heap.size->T i->U i):ja a b U :=
 ⟨h.os,h.tape,h.output,h.size,fun i hi hu=>h.block i hi (fun ht=>hu (c i hi ht))⟩
theorem ja.tt{b c:World}(h:ja a b T)(k:ja b c T):ja a c T:=h.trans k (fun _ _ h=>id h)
theorem ja.up{b:World}(h:ja a b (fun _=>False)):ja a b T:=h.mono (fun _ _ t=>(id t).elim)
theorem ja.grown{row:Option Nat}(h:w.grownBy w' row):ja w w' (fun i=>some i=row) :=
 ⟨h.os,h.tape,h.output,h.size,fun i hi ht=>h.block i hi ht⟩
theorem ja.alloc(w:World)(o:Obj)(T:Nat->Prop):ja w (w.alloc o) T :=
 ⟨rfl,rfl,rfl,by simp,fun k hk _=>Below.heap_alloc w o k hk⟩
theorem ja.drew(w:World)(T:Nat->Prop):ja w w.drew T:=⟨rfl,rfl,rfl,zJ _,fun _ _ _=>rfl⟩
theorem ja.setCell(w:World)(a:Addr)(u:Value):ja w (w.setCell a u) (fun i=>i=a.block) :=
 ⟨rfl,rfl,rfl,by simp[World.setCell],fun k _ hk=>Below.heap_setCell _ _ _ _ hk⟩
theorem ja.set(h:ja a w T)(b:T p.block)(u:Value):ja a (w.setCell p u) T:=h.trans (ja.setCell w p u) (fun i _ hi=>hi▸b)
theorem ja.Xd(h:ja a w T)(b:a.heap.size<=p.block)(u:Value):ja a (w.setCell p u) T:=h.trans (ja.setCell w p u) (fun i hi e=>by omega)
theorem ja.more(h:ja a w T)(o:Obj):ja a (w.alloc o) T:=h.tt (ja.alloc w o T)
theorem ja.draw(h:ja a w T):ja a w.drew T:=h.tt (ja.drew w T)
theorem ja.grow{row:Option Nat}(h:ja a w T)(c:w.grownBy w' row)(b:∀ k,row=some k->k<a.heap.size->T k):ja a w' T :=
 h.trans (ja.grown c) (fun i hi e=>b i e.symm hi)
theorem ja.same(h:ja w w' T){k:Nat}{o:Obj}(c:w.heap[k]?=some o)(b:¬T k):w'.heap[k]?=some o:=(h.block k (Array.getElem?_eq_some_iff.1 c).1 b).trans c
theorem ja.row{base size:Nat}(i:ja w w' T)(h:w.ownsRow base e size v n xs)(b:∀ g,v.ownBlock=some g->¬T g):w'.ownsRow base e size v n xs:=by
 refine⟨h.1,?_⟩;rcases h.2 with f|⟨g,cap,d,rfl,j,c,rest⟩
 ·exact .inl f
 ·exact .inr ⟨g,cap,d,rfl,j,i.same c (b g rfl),rest⟩
theorem ja.map(f:ja w w' T)(h:w.ownsMap P k R b n D)(d:¬T b):w'.ownsMap P k R b n D:=by
 obtain⟨i,c,g,r⟩:=h;exact⟨i,c,f.same g d,r⟩
theorem ja.cell(c:ja w w' T){a:Addr}(h:w.cell? a=some v)(b:¬T a.block):w'.cell? a=some v :=
 (World.cell?_of_block (c.block a.block (xI w a h) b)).trans h
theorem Ju(a:Addr)(j:Nat):(a.add j).block=a.block:=by unfold Addr.add;split<;>rfl
theorem jd(h:w.heap[b]?=some (.cells c e sr))(v:Value) :
 (w.setCell ⟨b,o,none⟩ v).heap[b]?=some (.cells (c.setIfInBounds o v) e sr):=by
 simp[World.setCell,Array.getElem?_modify,h]
theorem zA(h:w.heap[b]?=some (.cells c e sr)):w.cell? ⟨b,o,none⟩=c[o]?:=by
 simp[World.cell?,h]
theorem zB(h:w.heap[b]?=some (.cells c e (0,0))):w.frozen? ⟨b,o,none⟩=false:=by
 simp[World.frozen?,h]
theorem zC{o:Obj}(h:w.heap[b]?=some o):b<w.heap.size:=(Array.getElem?_eq_some_iff.1 h).1
theorem je(w:World)(o:Obj):(w.alloc o).heap[w.heap.size]?=some o:=(MapKept.heap_alloc w o).1
theorem sk{d:World}(f:(w.alloc (.cells c e sr)).grownBy d (some b))(g:b<w.heap.size)(j:Nat):d.cell? ⟨w.heap.size,j,none⟩=c[j]?:=by
 have h:=f.block w.heap.size (by simp) (by simp;omega);rw[je] at h;exact zA h
theorem Jf(h:w.heap[b]?=some (.cells c e sr))(x:Obj):(w.alloc x).cell? ⟨b,o,none⟩=c[o]? :=
 zA ((Below.heap_alloc w x b (zC h)).trans h)
theorem xd{base base' size:Nat}(h:w.ownsRow base e size v n xs)(f:base'<=base):w.ownsRow base' e size v n xs:=by
 refine⟨h.1,?_⟩;rcases h.2 with d|⟨g,cap,c,rfl,b,rest⟩
 ·exact .inl d
 ·exact .inr ⟨g,cap,c,rfl,ZI f b,rest⟩
abbrev Str:=List UInt8
abbrev jf(s:Str):Value:= .string ⟨s.toArray⟩
abbrev j5(x:UInt8):Value:= .int .u8 x.toNat
structure jz where
 bytes:List UInt8
 safe:Nat
 late:List (Nat×Nat)
structure y9 where
 make:Str
 src:Str
 dst:Str
 f:Option Nat
structure jc where
 names:DataW Nat
 safe:DataW Nat
 late:List y9
 files:Nat->Option jz
 calls:Int
 fail:Int
 cut:Int
 wrote:Int
abbrev fy(o:Option Nat):Value:= .pointer (o.map fun b=>⟨b,0,none⟩)
def yi:Value->Option (DataW Nat×List MemPlace)
 | .pointer (some ⟨b,0,none⟩)=>some (.held b,[])
 | .pointer none=>some (.nil,[])
 | _=>none
def fileOf:DataW Nat->Option Nat
 | .held b=>some b
 | _=>none
def lh:Option Nat->DataW Nat
 | some b=> .held b
 | none=> .nil
theorem Oh(o:Option Nat):yi (fy o)=some (lh o,[]):=by cases o<;>rfl
theorem A5{z:DataW Nat×List MemPlace}(h:yi v=some z):v=fy (fileOf z.1)/\z=(lh (fileOf z.1),[]):=by
 unfold yi at h
 split at h
 ·cases h;exact⟨rfl,rfl⟩
 ·cases h;exact⟨rfl,rfl⟩
 ·cases h
def qz(l:List (Nat×Nat)):List Value:=l.flatMap fun p=>[.int .i64 p.1,.int .i64 p.2]
def xe(l:List y9):List Value:=l.flatMap fun c=>[jf c.make,jf c.src,jf c.dst,fy c.f]
abbrev j3:=Nat×Nat
abbrev j3.none:j3:=(0,0)
abbrev j3.xi:j3:=(1,0)
abbrev j3.names:j3:=(2,0)
abbrev j3.safe:j3:=(3,0)
abbrev j3.late:j3:=(4,0)
abbrev j3.file:j3:=(5,0)
abbrev j3.bytes(f:Nat):j3:=(6,f)
abbrev j3.pieces(f:Nat):j3:=(7,f)
def Kk(w:World)(ρ:Nat->j3)(f:Nat)(a:jz):Prop :=
 ρ f = .file/\∃ bv pv,w.heap[f]?=some (.cells #[bv,.int .i64 a.safe,pv] 154 (0,0)) /\
  w.ownsRow 0 5 1 bv a.bytes.length (a.bytes.map j5)/\(∀ g,bv.ownBlock=some g->ρ g = .bytes f) /\
  w.ownsRow 0 192 2 pv a.late.length (qz a.late)/\(∀ g,pv.ownBlock=some g->ρ g = .pieces f)
def bm(D:DataW Nat)(files:Nat->Option jz):Prop:=∀ k,Maps.has D k=true->∃ f a,D.atKey k .nil = .held f/\files f=some a
def Wn(files:Nat->Option jz)(c:y9):Prop :=
 c.make.length<1099511627776/\c.src.length<1099511627776/\c.dst.length<1099511627776/\(c.make≠[]\/c.dst≠[]->∃ f a,c.f=some f/\files f=some a)
structure Rep(w:World)(ρ:Nat->j3)(d:Nat)(S:jc):Prop where
 mem:∃ nm sm lv,w.heap[d]?=some (.cells #[.map (some nm),.map (some sm),lv,.int .i64 S.calls,.int .i64 S.fail,.int .i64 S.cut,.int .i64 S.wrote] 101 (0,0)) /\
  ρ nm = .names/\ρ sm = .safe/\w.ownsMap prog 9 yi nm (Maps.size S.names) S.names/\w.ownsMap prog 9 yi sm (Maps.size S.safe) S.safe /\
  w.ownsRow 0 148 4 lv S.late.length (xe S.late)/\(∀ g,lv.ownBlock=some g->ρ g = .late)
 xi:ρ d = .xi
 files:∀ f a,S.files f=some a->Kk w ρ f a
 z7:bm S.names S.files
 Jp:bm S.safe S.files
 N8:∀ c∈S.late,Wn S.files c
 lt:∀ i,ρ i≠ .none->i<w.heap.size
 Oi:-1<=S.fail/\S.fail<=9223372036854775807
 jaq:-1<=S.cut/\S.cut<=9223372036854775807
structure Small(S:jc):Prop where
 names:Maps.size S.names<1099511627776
 safe:Maps.size S.safe<1099511627776
 late:S.late.length<1099511627776
 files:∀ f a,S.files f=some a->a.bytes.length<1099511627776/\a.late.length<1099511627776/\a.safe<1099511627776
structure x7(w:World)(ρ:Nat->j3)(w':World)(ρ':Nat->j3):Prop where
 keeps:ja w w' (fun i=>ρ i≠ .none)
 role:∀ i,i<w.heap.size->ρ' i=ρ i
theorem x7.refl(w:World)(ρ:Nat->j3):x7 w ρ w ρ:=⟨ja.refl _ _,fun _ _=>rfl⟩
theorem x7.trans{b c:World}{r s t:Nat->j3}(h:x7 a r b s)(k:x7 b s c t):x7 a r c t :=
 ⟨h.keeps.trans k.keeps (fun i hi hs=>by rw[<-h.role i hi];exact hs),fun i hi=>(k.role i (ZH hi h.keeps.size)).trans (h.role i hi)⟩
theorem x7.of{ρ:Nat->j3}(h:ja w w' T)(b:∀ i,i<w.heap.size->T i->ρ i≠ .none):x7 w ρ w' ρ:=⟨h.mono b,fun _ _=>rfl⟩
theorem tight(h:w.ownsMap P k R b n D):w.ownsMap P k R b (Maps.size D) D:=by
 obtain⟨f,c,d,F,g,rfl⟩:=h;refine⟨f,c,d,F,?_,rfl⟩;simp[Maps.size,length_sorted]
theorem Kk.keep{ρ d:Nat->j3}{f:Nat}{a:jz}(h:Kk w ρ f a)(c:ja w w' T)(b:∀ i,i<w.heap.size->d i=ρ i)(r:¬T f)(q:∀ i,ρ i = .bytes f->¬T i)(p:∀ i,ρ i = .pieces f->¬T i):Kk w' d f a:=by
 obtain⟨o,s,pv,m,n,k,l,j⟩:=h;refine⟨(b f (zC m)).trans o,s,pv,c.same m r,c.row n (fun g hg=>q g (k g hg)),fun g hg=>(b g (n.lt g hg).2).trans (k g hg),c.row l (fun g hg=>p g (j g hg)),fun g hg=>(b g (l.lt g hg).2).trans (j g hg)⟩
theorem Rep.keep{ρ:Nat->j3}{S:jc}(R:Rep w ρ d S)(c:ja w w' T)(v:∀ i,T i->i<w.heap.size->ρ i = .none):Rep w' ρ d S:=by
 obtain⟨⟨nm,k,lv,u,l,rs,r,os,s,m⟩,o,n,t,q,lo,j,x,y⟩:=R;have b:∀ i,ρ i≠ .none->¬T i:=fun i hi ht=>hi (v i ht (j i hi));refine⟨⟨nm,k,lv,c.same u (b d (by rw[o];decide)),l,rs,c.map r (b nm (by rw[l];decide)),c.map os (b k (by rw[rs];decide)),c.row s (fun g hg=>b g (by rw[m g hg];decide)),m⟩,o,?_,t,q,lo,fun i hi=>ZH (j i hi) c.size,x,y⟩;intro f a p;exact(n f a p).keep c (fun _ _=>rfl) (b f (by rw[(n f a p).1];decide)) (fun i hi=>b i (by rw[hi];exact fun h=>by cases h)) (fun i hi=>b i (by rw[hi];exact fun h=>by cases h))
theorem bm.mono{fs b:Nat->Option jz}(h:bm D fs)(d:∀ f a,fs f=some a->∃ a',b f=some a'):bm D b:=by
 intro k c;obtain⟨f,a,j,i⟩:=h k c;obtain⟨a',g⟩:=d f a i;exact⟨f,a',j,g⟩
theorem Wn.mono{c:y9}{fs b:Nat->Option jz}(h:Wn fs c)(d:∀ f a,fs f=some a->∃ a',b f=some a'):Wn b c:=by
 obtain⟨m,l,k,j⟩:=h;refine⟨m,l,k,fun h=>?_⟩;obtain⟨f,a,e,i⟩:=j h;obtain⟨a',g⟩:=d f a i;exact⟨f,a',e,g⟩
def jc.bad(S:jc):Bool:=S.fail==0||S.cut==0
theorem jb7(d:Nat)(nm f lv:Value)(cs b c wr:Int)(ch:Bool)(w:World)(h:w.heap[d]?=some (.cells #[nm,f,lv,.int .i64 cs,.int .i64 b,.int .i64 c,.int .i64 wr] 101 (0,0)))(g:-1<=b/\b<=9223372036854775807)(j:-1<=c/\c<=9223372036854775807) :
 Calls prog 102 #[.pointer (some ⟨d,0,none⟩),.bool ch] w fun e w'=>e = .returned (.bool (b==0||c==0)) /\
  w'.heap[d]?=some (.cells #[nm,f,lv,.int .i64 (wrap64 (cs+1)),.int .i64 (if 0<=b then b-1 else b),.int .i64 (if 0<c then c-1 else c),.int .i64 (if ch then wrap64 (wr+1)else wr)] 101 (0,0)) /\
  ja w w' (fun i=>i=d):=by
 have n:=zA (o:=3) h;have m:=zA (o:=4) h;have l:=zA (o:=5) h;have k:=zA (o:=6) h;have x:=zB (o:=3) h;have v:=zB (o:=4) h;have u:=zB (o:=5) h;have t:=zB (o:=6) h;simp at n m l k;obtain⟨q,p⟩:=g;obtain⟨s,r⟩:=j;have H:Hid (w.heap[d]?=_):=h;clear h;go_enter func102,ntmps102;go_wp2
 all_goals go_ret
 all_goals exact⟨rfl,by have h:=H.out;simp[World.setCell,Array.getElem?_modify,h],by repeat (first|exact ja.refl _ _|refine ja.set ?_ (by exact rfl) _)⟩
def jc.called(S:jc)(ch:Bool):jc :=
 { S with calls:=wrap64 (S.calls+1),fail:=if 0<=S.fail then S.fail-1 else S.fail,cut:=if 0<S.cut then S.cut-1 else S.cut,wrote:=if ch then wrap64 (S.wrote+1)else S.wrote }
theorem zv{ρ:Nat->j3}{S:jc}(ch:Bool)(R:Rep w ρ d S) :
 Calls prog 102 #[.pointer (some ⟨d,0,none⟩),.bool ch] w fun e w'=>e = .returned (.bool S.bad)/\Rep w' ρ d (S.called ch)/\x7 w ρ w' ρ:=by
 obtain⟨⟨nm,m,lv,v,n,rs,s,os,t,o⟩,j,p,u,r,lo,k,x,y⟩:=R;refine(jb7 d _ _ lv S.calls S.fail S.cut S.wrote ch w v x y).mono ?_;rintro e w' ⟨rfl,l,c⟩;have b:∀ i,ρ i≠ .xi->¬i=d:=fun i hi e=>hi (e▸j);refine⟨rfl,⟨⟨nm,m,lv,l,n,rs,c.map s (b nm (by rw[n];decide)),c.map os (b m (by rw[rs];decide)),c.row t (fun g hg=>b g (by rw[o g hg];decide)),o⟩,j,?_,u,r,lo,fun i hi=>ZH (k i hi) c.size,?_,?_⟩,?_⟩
 ·intro f a q
  exact(p f a q).keep c (fun _ _=>rfl) (b f (by rw[(p f a q).1];decide)) (fun i hi=>b i (by rw[hi];exact fun h=>by cases h)) (fun i hi=>b i (by rw[hi];exact fun h=>by cases h))
 ·simp only[jc.called];split<;>omega
 ·simp only[jc.called];split<;>omega
 ·exact x7.of c (fun i _ e=>by rw[e,j];decide)
theorem Small.called{S:jc}(h:Small S)(ch:Bool):Small (S.called ch):=⟨h.names,h.safe,h.late,h.files⟩
end Go.Proofs.YtnipbplghijdmaaGreatDoor
namespace Go.Proofs.YtnipbplghijdmaaGreatDoor
open RowKit Maps WideShapes Go.Proofs.Tryz
theorem law:Keyed prog 9:=string_keyed underlying9
def doA(D:DataW Nat)(c:y9):DataW Nat :=
 if c.make.isEmpty=false then D.put (.string c.make) (lh c.f)
 else if c.dst.isEmpty=false then(if c.dst≠c.src then(D.put (.string c.dst) (lh c.f)).del (.string c.src)else D.put (.string c.dst) (lh c.f))
 else D.del (.string c.src)
theorem an{s:Str}(h:s.length<1099511627776):keyOf prog 9 (jf s)=some (.string s) :=
 WideMaps.keyOf_string_mk (s:=⟨s.toArray⟩) underlying9 (by show s.toArray.size<=maxLen;unfold maxLen;simp;omega)
theorem Vy(b n:Nat)(D:DataW Nat)(k sr ds:Str)(f:Option Nat)(w:World)(g:w.ownsMap prog 9 yi b n D)(y:n<1099511627776)(v:k.length<1099511627776)(x:sr.length<1099511627776)(u:ds.length<1099511627776) :
 Calls prog 81 #[.map (some b),.agg #[jf k,jf sr,jf ds,fy f]] w fun e w'=>e = .returned (.tuple #[]) /\
  w'.ownsMap prog 9 yi b (n+1) (doA D ⟨k,sr,ds,f⟩)/\ja w w' (fun i=>i=b):=by
 have r:=an v;have m:=an x;have q:=an u;have s:=Oh f;have o:=g.lt;go_enter func81,ntmps81
 go_wp2_with (first
  | (at_mapUpdate;refine wpList_mapUpdate_own _ rfl (.tmp 11) (.tmp 13) (.tmp 15) 98 rfl 9 146 law underlying98 _ b n _ rfl (g.alloc _) (by unfold maxLen;omega) _ _ _ rfl rfl r _ [] s ?_;intro p c j)
  | (at_mapUpdate;refine wpList_mapUpdate_own _ rfl (.tmp 20) (.tmp 22) (.tmp 24) 98 rfl 9 146 law underlying98 _ b n _ rfl (g.alloc _) (by unfold maxLen;omega) _ _ _ rfl rfl q _ [] s ?_;intro p c j;have A:p.cell? ⟨w.heap.size,1,none⟩=some (jf sr):=(sk j o _);have z:p.cell? ⟨w.heap.size,2,none⟩=some (jf ds):=(sk j o _))
  | (at_delete;refine wpList_delete_own _ rfl (.tmp 30) (.tmp 32) 98 9 rfl 146 law underlying98 _ b _ _ rfl c _ _ rfl m ?_;intro t d l)
  | (at_delete;refine wpList_delete_own _ rfl (.tmp 4) (.tmp 6) 98 9 rfl 146 law underlying98 _ b n _ rfl (g.alloc _) _ _ rfl m ?_;intro t d l)
  | go_in)
 all_goals go_end0
 ·refine⟨rfl,?_,((ja.refl w _).more _).grow j (by simp)⟩
  have e:doA D ⟨k,sr,ds,f⟩=D.put (.string k) (lh f):=by simp_all [doA]
  rw[e];exact c
 ·refine⟨rfl,?_,(((ja.refl w _).more _).grow j (by simp)).grow l.grown (by simp)⟩
  have e:doA D ⟨k,sr,ds,f⟩=(D.put (.string ds) (lh f)).del (.string sr):=by simp_all [doA]
  rw[e];exact d
 ·refine⟨rfl,?_,((ja.refl w _).more _).grow j (by simp)⟩
  have e:doA D ⟨k,sr,ds,f⟩=D.put (.string ds) (lh f):=by simp_all [doA]
  rw[e];exact c
 ·refine⟨rfl,?_,((ja.refl w _).more _).grow l.grown (by simp)⟩
  have e:doA D ⟨k,sr,ds,f⟩=D.del (.string sr):=by simp_all [doA]
  rw[e];exact d.mono (Nat.le_succ _)
end Go.Proofs.YtnipbplghijdmaaGreatDoor
