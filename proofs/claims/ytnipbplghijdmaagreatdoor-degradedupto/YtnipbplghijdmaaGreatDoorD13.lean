/-
  D: Entry.
-/
import Derived.WalkSpells
import Derived.WalkLawsBesides
import Derived.Test.YtnipbplghijdmaaGreatDoorD12
set_option maxRecDepth 100000
set_option maxHeartbeats 8000000
set_option linter.unusedVariables false
set_option linter.unusedSimpArgs false
namespace Go.Proofs.YtnipbplghijdmaaGreatDoor
open RowKit Maps WideShapes Go.Proofs.Tryz
variable {l:List Rf.Ch} {w w':World} {v v2:Value} {b:Nat}
abbrev chV(c:Rf.Ch):Value:= .agg #[jf c.key,jf c.value,.bool c.gone]
def jj(l:List Rf.Ch):List Value:=l.flatMap fun c=>[jf c.key,jf c.value,.bool c.gone]
theorem df(l:List Rf.Ch)(c:Rf.Ch):jj (l++[c])=jj l++jj [c]:=by simp[jj]
theorem yp(l:List Rf.Ch):(jj l).length=l.length*3:=by
 induction l with
 | nil=>rfl
 | cons c r ih=>simp only[jj,ZV,zW,zH,zX] at ih ⊢;omega
theorem na(l:List Rf.Ch):∀ u∈jj l,u.oneCell'=true:=by
 intro u b;simp only[jj,List.mem_flatMap] at b;obtain⟨c,_,b⟩:=b;simp at b;rcases b with rfl|rfl|rfl<;>rfl
theorem we{k:Nat}(h:k<l.length):(jj l)[k*3]?=some (jf l[k].key)/\(jj l)[k*3+1]?=some (jf l[k].value)/\(jj l)[k*3+2]?=some (.bool l[k].gone):=by
 induction l generalizing k with
 | nil=>simp at h
 | cons c r ih =>
  cases k with
  | zero=>simp[jj]
  | succ k =>
   have:=ih (k:=k) (by simpa using h);have e:jj (c::r)=[jf c.key,jf c.value,.bool c.gone]++jj r:=by simp[jj]
   rw[e];simp only[show(k+1)*3=3+k*3 by omega,List.getElem_cons_succ];refine⟨?_,?_,?_⟩
   ·rw[ZW (by simp)];simpa using this.1
   ·rw[ZW (by simp;omega)];simp only[zH,zX,show 3+k*3+1-(0+1+1+1)=k*3+1 by omega];exact this.2.1
   ·rw[ZW (by simp;omega)];simp only[zH,zX,show 3+k*3+2-(0+1+1+1)=k*3+2 by omega];exact this.2.2
def Chs(w:World)(v:Value)(l:List Rf.Ch):Prop :=
 ∃ p c,v = .slice p l.length c/\l.length<=c/\c<=maxLen/\(p=none->c=0)/\∀ ad,p=some ad->ad.spot=none/\∀ j u,(jj l)[j]?=some u->w.cell? (ad.add j)=some u
theorem Chs.keep{T:Nat->Prop}(h:Chs w v l)(d:ja w w' T)(f:l≠[]->∀ p n c,v = .slice (some p) n c->¬T p.block):Chs w' v l:=by
 obtain⟨p,c,rfl,k,i,g,b⟩:=h;exact⟨p,c,rfl,k,i,g,fun ad e=>⟨(b ad e).1,fun j u hu=>d.cell ((b ad e).2 j u hu) (by rw[Ju];exact f (fun e=>by rw[e] at hu;simp[jj] at hu) ad _ _ (by rw[e]))⟩⟩
theorem Chs.same(h:Chs w v l)(b:ja w w' (fun _=>False)):Chs w' v l:=h.keep b (fun _ _ _ _ _ h=>h)
theorem Chs.lt{p:Addr}{n c:Nat}(h:Chs w (.slice (some p) n c) l)(b:l≠[]):p.block<w.heap.size:=by
 obtain⟨f,k,e,j,i,g,d⟩:=h;cases e
 cases l with
 | nil=>exact absurd rfl b
 | cons x r =>
  have:=xI w _ ((d p rfl).2 0 (jf x.key) (by simp[jj]));rwa [Ju] at this
theorem Chs.nil(w:World):Chs w (.slice none 0 0) []:=⟨none,0,rfl,zJ _,zG _,fun _=>rfl,fun _ h=>by cases h⟩
theorem Je{base:Nat}(h:w.ownsRow base 88 3 v l.length (jj l)):Chs w v l:=by
 rcases h.2 with⟨e,d⟩|⟨g,cap,i,e,_,f,c,b,_⟩
 ·have:l=[]:=zT d
  subst this;rw[e];exact Chs.nil w
 ·refine⟨some ⟨g,0,none⟩,cap,e,c,b,(fun h=>by cases h),fun ad had=>?_⟩
  cases had;exact⟨rfl,fun j u hu=>h.cells (by rw[e];rfl) j _ hu⟩
theorem ly{l h:List UInt8}(g:Bytes w v l)(i:Rf.xh l=some (h,[]))(j:l.length<1099511627776) :
 Calls prog 215 #[v] w fun e w'=>∃ v1,e = .returned (.tuple #[v1,.nilIface])/\Bytes w' v1 h/\ja w w' (fun _=>False):=by
 go_enter func215,ntmps215;go_wp2_with fail;refine(Ab g i j).mono ?_;rintro e k ⟨v1,d,⟨v2,b,rfl⟩,f⟩;obtain⟨p,c,rfl,_⟩:=b;go_wp2;go_ret2;exact⟨_,rfl,d,f⟩
theorem Kr{E:Nat->Addr}{B:Nat}{l:List UInt8}(S:Xg E B w)(o:B<=w.heap.size)(g:Bytes w v l)(n:∀ h,Rf.xh l≠some (h,[]))(i:l.length<1099511627776) :
 Calls prog 215 #[v] w fun e w'=>∃ v1,e = .returned (.tuple #[.slice none 0 0,v1])/\fw E w' v1/\ja w w' (fun _=>False):=by
 cases hf:Rf.xh l with
 | none =>
  go_enter func215,ntmps215;go_wp2_with fail;refine(ui S o g hf i).mono ?_;rintro e k ⟨v1,rfl,j,b⟩;obtain⟨t,a,rfl⟩:=j.shape;go_wp2;go_ret2;exact⟨_,rfl,j,b⟩
 | some x =>
  obtain⟨h,q⟩:=x
  have z:0<q.length:=by
   cases q with
   | nil=>exact absurd hf (n h)
   | cons _ _=>simp
  go_enter func215,ntmps215;go_wp2_with fail;refine(Ab g hf i).mono ?_;rintro e k ⟨v1,r,⟨v2,f,rfl⟩,b⟩;obtain⟨p,c,rfl,_⟩:=f;have y:=(S.same b).cell 3 (by decide);go_wp2_with fail;refine(zw _ (.base (E:=E) 3 (by decide))).mono ?_;rintro e s ⟨u,rfl,d,m⟩;go_wp2;go_ret2;exact⟨_,rfl,⟨_,by decide,d⟩,b.tt m⟩
theorem bj(c:Rf.Ch)(n:c.key.length<1099511627776)(m:c.value.length<1099511627776)(w:World) :
 Calls prog 101 #[chV c] w fun e w'=>e = .returned (.bool (Rf.allowed c))/\ja w w' (fun _=>False):=by
 obtain⟨k,v,g⟩:=c;simp only at n m;have j:v.isEmpty=true\/v.isEmpty=false:=by cases v.isEmpty<;>simp
 have f:∀(b:Bool),(b=Rf.allowed ⟨k,v,g⟩)->(Ending.returned (.bool b) = .returned (.bool (Rf.allowed ⟨k,v,g⟩))):=fun b e=>by rw[e]
 have i:=jb f;clear f;have l:Hid (Rf.allowed ⟨k,v,g⟩=(decide (1<=k.length)&&decide (k.length<=16)&&decide (v.length<=40)&&!(g&&decide (v≠[])))):=rfl;generalize hQ:Rf.allowed ⟨k,v,g⟩=Q at i l ⊢;clear hQ;rcases j with j|j<;>cases g
 all_goals
  have d:v=[]↔v.isEmpty=true:=by simp
  have o:=jb d;clear d;go_enter func101,ntmps101;go_wp2
 all_goals
  go_ret;refine⟨i.out _ ?_,ja.alloc w _ _⟩;have q:=o.out;rw[l.out];simp at *
  try simp[*]
  try omega
  try (have p:v.length=0:=by rw[j];rfl
       omega)
theorem jgq(w:World)(t:List UInt8):Src prog 1 9 (jf t) t.length (t.map j5) w:=by
 have h:=Src.ofString (P:=prog) w underlying9 ⟨t.toArray⟩;have c:(⟨t.toArray⟩:ByteArray).size=t.length:=by simp[ByteArray.size]
 have b:byteCells ⟨t.toArray⟩=t.map j5:=by simp[byteCells]
 rw[c,b] at h;exact h
theorem Zn(v:Value)(m:Nat)(xs t:List UInt8)(base:Nat)(w:World)(U:xs.length=m)(V:m<1099511627776)(T:t.length<1099511627776)(B:base<=w.heap.size)(d:w.ownsRow base 5 1 v m (xs.map j5)) :
 Calls prog 163 #[v,jf t] w fun e w'=>∃ p c,e = .returned (.slice p (m+1+t.length) c) /\
  w'.ownsRow base 5 1 (.slice p (m+1+t.length) c) (m+1+t.length) ((xs++Rf.text t).map j5)/\Grown w v w' (.slice p (m+1+t.length) c):=by
 obtain⟨S,W,rfl⟩:=jl d;obtain⟨C,E,n,l,k⟩:=info_parts Tryz.mn
 have q:((t.length:Int)%256)=((UInt8.ofNat (t.length%256)).toNat:Int):=by
  have H:(UInt8.ofNat (t.length%256)).toNat=t.length%256:=by simp[XU]
  rw[H];omega
 have J:=jb q;clear q;have g:=d.alloc (.cells #[.int .u8 ((t.length:Int)%256)] 5);have I:∀ u∈[Value.int .u8 ((t.length:Int)%256)],u.oneCell'=true:=by intro u D;simp at D;subst D;rfl
 have z:Hid (m+1<=maxLen):=by unfold Hid maxLen;omega
 have y:Hid ((m+1)*1<=140737488355328):=by unfold Hid;omega
 have s:Hid (m+1+t.length<=maxLen):=by unfold Hid maxLen;omega
 have r:Hid ((m+1+t.length)*1<=140737488355328):=by unfold Hid;omega
 have F:base<=(w.alloc (.cells #[.int .u8 ((t.length:Int)%256)] 5)).heap.size:=by simp;omega
 have L:(⟨t.toArray⟩:ByteArray).size=t.length:=by simp[ByteArray.size]
 go_enter func163,ntmps163
 go_wp2_with (first
  | (at_builtin;refine jy _ rfl (.tmp 5) (.tmp 9) 84 rfl base 5 C (.int .u8 0) 1 1 underlying84 E n l k rfl (by decide) _ _ _ rfl g ⟨w.heap.size,0,none⟩ 1 1 [.int .u8 ((t.length:Int)%256)] rfl rfl (cell_one_new _ _ _) I z.out y.out F ?_;intro R M O f o j)
  | (at_builtin;refine Xq _ rfl (.tmp 10) (.tmp 11) 84 9 rfl base 5 C (.int .u8 0) 1 1 underlying84 E n l k rfl (by decide) _ _ _ rfl f _ t.length _ rfl (jgq _ t) s.out r.out ?_ ?_;exact ZI F o.size;intro G A N b x i)
  | go_in)
 go_ret;refine⟨G,A,rfl,?_,(Grown.of (ja.alloc w _ _) _).trans ((Grown.grown o j).trans (Grown.grown x i))⟩;rw[J.out] at b;have e:(xs++Rf.text t).map j5=(xs.map j5++[.int .u8 ((UInt8.ofNat (t.length%256)).toNat:Int)])++t.map j5:=by simp[Rf.text,Rf.ua]
 rw[e];exact b
theorem jg0{s:Nat}(h:v2.ownBlock=v.ownBlock\/v2.ownBlock=some s)(c:¬some b=v.ownBlock)(f:b<s):¬some b=v2.ownBlock:=by
 rcases h with e|e
 ·rw[e];exact c
 ·rw[e];intro d;have:=Option.some.inj d;omega
theorem X6(b:Array Value)(w:World):(callFunc 163 b).run prog w = .ok (.enter 163 b) w:=by kernel_rfl
theorem Grown.boxed{f d:World}{g:Value}{o:Obj}(i:Grown f v2 d g)(h:f.heap[b]?=some o)(c:¬some b=v2.ownBlock):d.heap[b]?=some o:=i.keeps.same h c
theorem Ew(v:Value)(m:Nat)(xs:List UInt8)(c:Rf.Ch)(base:Nat)(w:World)(hm:xs.length=m)(hl:m<549755813888)(hk:c.key.length<1048576)(hv:c.value.length<1048576)(ab:base<=w.heap.size)(r:w.ownsRow base 5 1 v m (xs.map j5)) :
 Calls prog 151 #[v,chV c] w fun e w'=>∃ p cp,e = .returned (.slice p (m+(Rf.entry c).length) cp) /\
  w'.ownsRow base 5 1 (.slice p (m+(Rf.entry c).length) cp) (m+(Rf.entry c).length) ((xs++Rf.entry c).map j5)/\Grown w v w' (.slice p (m+(Rf.entry c).length) cp):=by
 obtain⟨p0,c0,rfl⟩:=jl r;obtain⟨j0,hj,R,O,N⟩:=info_parts Tryz.mn;obtain⟨k,x,g⟩:=c;simp only at hk hv;have s:=r.alloc (.cells #[jf k,jf x,.bool g] 88);have a8:=r.lt;have H:¬some w.heap.size=(Value.slice p0 m c0).ownBlock:=fun e=>by have:=(a8 _ e.symm).2;omega
 have W:(w.alloc (.cells #[jf k,jf x,.bool g] 88)).heap.size=w.heap.size+1:=by simp
 have C:∀ y:Int,∀ j u,[Value.int .u8 y][j]?=some u->((w.alloc (.cells #[jf k,jf x,.bool g] 88)).alloc (.cells #[.int .u8 y] 5)).cell? ((⟨w.heap.size+1,0,none⟩:Addr).add j)=some u:=by
  intro y;have:=cell_one_new (w.alloc (.cells #[jf k,jf x,.bool g] 88)) (.int .u8 y) 5;rw[W] at this;exact this
 have h1:∀ y:Int,∀ u∈[Value.int .u8 y],u.oneCell'=true:=by intro y u hu;simp at hu;subst hu;rfl
 have V:Hid (m+1<=maxLen):=by unfold Hid maxLen;omega
 have U:Hid ((m+1)*1<=140737488355328):=by unfold Hid;omega
 have A:∀ o,Hid (base<=((w.alloc (.cells #[jf k,jf x,.bool g] 88)).alloc o).heap.size):=by intro o;unfold Hid;simp;omega
 have kk:∀ o,ja w ((w.alloc (.cells #[jf k,jf x,.bool g] 88)).alloc o) (fun _=>False):=fun o=>((ja.refl w _).more _).more _;have z:∀ o,((w.alloc (.cells #[jf k,jf x,.bool g] 88)).alloc o).heap[w.heap.size]?=some (.cells #[jf k,jf x,.bool g] 88 (0,0)):=fun o=>(Below.heap_alloc _ o _ (by simp)).trans (je w _);have a6:Hid (∀ o,w.heap.size<((w.alloc (.cells #[jf k,jf x,.bool g] 88)).alloc o).heap.size):=by intro o;simp;omega
 have LL:Hid (∀ y:UInt8,(xs++[y]).length=m+1):=by intro y;simp;omega
 have L3:Hid ((xs++[1]++Rf.text k).length=m+1+1+k.length):=by unfold Hid;simp[Rf.text,Rf.js];omega
 have S:m+1<1099511627776:=by omega
 have a7:m+1+1+k.length<1099511627776:=by omega
 have T:k.length<1099511627776:=by omega
 have a5:x.length<1099511627776:=by omega
 have HC:=jb z;have HK:=jb kk;clear z kk
 cases g with
 | true =>
  go_enter func151,ntmps151;go_wp2_with fail
  go_region_law (first
   | (refine ye rfl (.tmp 7) (.tmp 8) 84 rfl base 5 j0 (.int .u8 0) 1 1 underlying84 hj R O N rfl ZJ _ m _ rfl (s.alloc _) ⟨w.heap.size+1,0,none⟩ 1 1 [.int .u8 2] rfl rfl (C 2) (h1 2) V.out U.out (A _).out ?_
      intro L q E b l i
      have F:=(ja.grown l).same (HC.out _) H
      have M:=zA (o:=0) F
      simp at M
      clear F
      have B:base<=E.heap.size:=ZI (A _).out l.size
      have J:Grown w (.slice p0 m c0) E (.slice L (m+1) q):=Grown.trans (Grown.of (HK.out _).draw _) (Grown.grown l i)
      have n:((xs++[2]).map j5)=xs.map j5++[.int .u8 2]:=by simp
      rw[<-n] at b
      clear n)
   | (refine jx rfl 163 [.tmp 9,.tmp 11] _ rfl X6 _ rfl (Zn (.slice L (m+1) q) (m+1) (xs++[2]) k base E (LL.out 2) S T B b) ?_
      rintro e Y ⟨Z,c3,rfl,f,d⟩
      refine⟨_,rfl,?_⟩))
  all_goals
   go_wp2;go_ret;have ee:xs++[2]++Rf.text k=xs++Rf.entry ⟨k,x,true⟩:=by simp[Rf.entry]
   have G:m+1+1+k.length=m+(Rf.entry ⟨k,x,true⟩).length:=by simp[Rf.entry,Rf.text,Rf.js];omega
   rw[ee,G] at f;rw[G] at d;rw[G];exact⟨Z,c3,rfl,f,J.trans d⟩
 | false =>
  go_enter func151,ntmps151;go_wp2_with fail
  go_region_law (first
   | (refine ye rfl (.tmp 13) (.tmp 14) 84 rfl base 5 j0 (.int .u8 0) 1 1 underlying84 hj R O N rfl ZJ _ m _ rfl (s.alloc _) ⟨w.heap.size+1,0,none⟩ 1 1 [.int .u8 1] rfl rfl (C 1) (h1 1) V.out U.out (A _).out ?_
      intro L q E b l i
      have F:=(ja.grown l).same (HC.out _) H
      have M:=zA (o:=0) F
      have e1:=zA (o:=1) F
      simp at M e1
      have HH:=jb F
      clear F
      have B:base<=E.heap.size:=ZI (A _).out l.size
      have J:Grown w (.slice p0 m c0) E (.slice L (m+1) q):=Grown.trans (Grown.of (HK.out _).draw _) (Grown.grown l i)
      have n:((xs++[1]).map j5)=xs.map j5++[.int .u8 1]:=by simp
      rw[<-n] at b
      clear n)
   | (refine jx rfl 163 [.tmp 15,.tmp 17] _ rfl X6 _ rfl (Zn (.slice L (m+1) q) (m+1) (xs++[1]) k base E (LL.out 1) S T B b) ?_
      rintro e Y ⟨Z,c3,rfl,f,d⟩
      have a9:base<=Y.heap.size:=ZI B d.keeps.size
      have aa:=J.trans d
      have X:=jg0 i H (a6.out _)
      have I:=d.boxed HH.out X
      have M:=zA (o:=0) I
      have e1:=zA (o:=1) I
      simp at M e1
      clear I
      refine⟨_,rfl,?_⟩)
   | (refine jx rfl 163 [.tmp 18,.tmp 20] _ rfl X6 _ rfl (Zn (.slice Z (m+1+1+k.length) c3) (m+1+1+k.length) (xs++[1]++Rf.text k) x base Y L3.out a7 a5 a9 f) ?_
      rintro e w4 ⟨p4,c4,rfl,t,D⟩
      refine⟨_,rfl,?_⟩))
  all_goals
   go_wp2;go_ret;have ee:xs++[1]++Rf.text k++Rf.text x=xs++Rf.entry ⟨k,x,false⟩:=by simp[Rf.entry]
   have G:m+1+1+k.length+1+x.length=m+(Rf.entry ⟨k,x,false⟩).length:=by simp[Rf.entry,Rf.text,Rf.js];omega
   rw[ee,G] at t;rw[G] at D;rw[G];exact⟨p4,c4,rfl,t,aa.trans D⟩
end Go.Proofs.YtnipbplghijdmaaGreatDoor
