/-
-/
import Derived.WalkSpells
import Derived.WalkLawsBesides
import Derived.Test.YtdaocdiabffpkaaGreatDoorR11
set_option maxRecDepth 100000
set_option maxHeartbeats 8000000
set_option linter.all false
namespace Go.Proofs.YtdaocdiabffpkaaGreatDoor
open RowKit Maps WideShapes Go.Proofs.Tryz
variable {l:List Rf.Ch} {w w':World} {v v2:Value} {b:Nat}
abbrev chV(c:Rf.Ch):Value:=.agg #[je c.key,je c.value,.bool c.gone]
def jh(l:L1):List Value:=l.flatMap λc=>[je c.key,je c.value,.bool c.gone]
theorem zc(l:L1)(c:Rf.Ch):jh (l++[c])=jh l++jh [c]:=by simp[jh]
theorem xl(l:L1):(jh l).length=l.length*3:=by induction l with|nil=>rfl|cons c r ih=>grind [jh,xC]
theorem Yz(l:L1):∀ u∈jh l,u.oneCell'=true:=by intro u b;simp only[jh,List.mem_flatMap] at b;obtain⟨c,_,b⟩:=b;simp at b;obtain rfl|rfl|rfl:=b<;>rfl
theorem dh{k:Nat}(h:k<l.length):(jh l)[k*3]?=some (je l[k].key)/\(jh l)[k*3+1]?=some (je l[k].value)/\(jh l)[k*3+2]?=some (.bool l[k].gone):=by induction l generalizing k with|nil=>simp at h|cons c r ih=>cases k with|zero=>simp[jh]|succ k=>grind [jh]
def Chs(w:World)(v:Value)(l:L1):Prop :=
 ∃ p c,v=.slice p l.length c/\l.length<=c/\c<=maxLen/\(p=none->c=0)/\∀ ad,p=some ad->ad.spot=none/\∀ j u,(jh l)[j]?=some u->w.cell? (ad.add j)=some u
theorem Chs.keep{T:Nat->Prop}(h:Chs w v l)(d:ja w w' T)(f:l≠[]->∀ p n c,v=.slice (some p) n c->¬T p.block):Chs w' v l:=by obtain⟨p,c,rfl,k,i,g,b⟩:=h;exact⟨p,c,rfl,k,i,g,λg e=>⟨(b g e).1,λj u i=>d.cell ((b g e).2 j u i)<|by rw[Js];exact f (λe=>by grind [jh]) g _ _<|by rw[e]⟩⟩
theorem Chs.same(h:Chs w v l)(b:ja w w' N_):Chs w' v l:=h.keep b λ_ _ _ _ _ h=>h
theorem Chs.lt{p:Addr}{n c:Nat}(h:Chs w (.slice (some p) n c) l)(b:l≠[]):p.block<w.heap.size:=by obtain⟨f,k,e,j,i,g,d⟩:=h;cases e;cases l with|nil=>exact absurd rfl b|cons x r=>have:=XJ w _ ((d p rfl).2 0 (je x.key)<|by simp[jh]);rwa [Js] at this
theorem Chs.nil(w:World):Chs w S5 []:=⟨none,0,rfl,ZG _,zT _,λ_=>rfl,λ_ h=>by cases h⟩
theorem yf{base:Nat}(h:w.ownsRow base 47 3 v l.length (jh l)):Chs w v l:=by obtain⟨e,i⟩|⟨g,cap,f,e,_,d,c,b,_⟩:=h.2;grind [Chs.nil];refine⟨some (A2 g),cap,e,c,b,(λh=>by cases h),λc c=>?_⟩;cases c;exact⟨rfl,λj u c=>h.cells (by rw[e];rfl) j _ c⟩
theorem re{l h:By}(g:Bytes w v l)(i:Rf.xu l=some (h,[]))(j:l.length<1099511627776):Calls prog 151 #[v] w λe w'=>∃ v1,e=.returned (.tuple #[v1,.nilIface])/\Bytes w' v1 h/\ja w w' N_:=by go_enter func151,ntmps151;go_wp2_with fail;refine(C1 g i j).mono ?_;rintro e k ⟨v1,d,⟨v2,b,rfl⟩,f⟩;obtain⟨p,c,rfl,_⟩:=b;go_wp2;go_ret2;exact⟨_,rfl,d,f⟩
theorem Ow{E:Nat->Addr}{B:Nat}{l:By}(S:Xv E B w)(n:B<=w.heap.size)(g:Bytes w v l)(u:∀ h,Rf.xu l≠some (h,[]))(i:l.length<1099511627776):Calls prog 151 #[v] w λe w'=>∃ v1,e=.returned (.tuple #[S5,v1])/\kt E w' v1/\ja w w' N_:=by cases hf:Rf.xu l with|none=>go_enter func151,ntmps151;go_wp2_with fail;refine(Be S n g hf i).mono ?_;rintro e k ⟨v1,rfl,j,b⟩;obtain⟨t,a,rfl⟩:=j.shape;go_wp2;go_ret2;exact⟨_,rfl,j,b⟩|some x=>obtain⟨h,q⟩:=x;(have y:0<q.length:=zF);go_enter func151,ntmps151;go_wp2_with fail;refine(C1 g hf i).mono ?_;rintro e k ⟨v1,o,⟨v2,f,rfl⟩,b⟩;obtain⟨p,c,rfl,_⟩:=f;have s:=(S.same b).cell 3 zE;go_wp2_with fail;refine(Jd _<|.base (E:=E) 3 zE).mono ?_;rintro e r ⟨v3,rfl,d,m⟩;go_wp2;go_ret2;exact⟨_,rfl,⟨_,zE,d⟩,b.tt m⟩
theorem ez(c:Rf.Ch)(n:c.key.length<1099511627776)(m:c.value.length<1099511627776)(w:World):Calls prog 63 #[chV c] w λe w'=>e=.returned (.bool (Rf.allowed c))/\ja w w' N_:=by
 obtain⟨k,v,g⟩:=c;simp only at n m;have j:v.isEmpty=true\/v.isEmpty=false:=by cases v.isEmpty<;>simp
 have f:∀(b:Bool),(b=Rf.allowed ⟨k,v,g⟩)->(Ending.returned (.bool b)=.returned (.bool<|Rf.allowed ⟨k,v,g⟩)):=λb e=>by rw[e]
 have i:=jb f;clear f;have l:Hid (Rf.allowed ⟨k,v,g⟩=(decide (1<=k.length)&&decide (k.length<=16)&&decide (v.length<=40)&&!(g&&decide (v≠[])))):=rfl;generalize hQ:Rf.allowed ⟨k,v,g⟩=Q at i l ⊢;clear hQ;obtain j|j:=j<;>cases g;all_goals (have d:v=[]↔v.isEmpty=true:=by simp);have o:=jb d;clear d;go_enter func63,ntmps63;go_wp2
 all_goals go_ret;refine⟨i.out _ ?_,ja.alloc w _ _⟩;have p:=o.out;rw[l.out];grind
theorem jnd(w:World)(t:By):Src prog 1 9 (je t) t.length (t.map qd) w:=by
 have h:=Src.ofString (P:=prog) w underlying9 ⟨t.toArray⟩;have c:(⟨t.toArray⟩:ByteArray).size=t.length:=by simp[ByteArray.size]
 have b:byteCells ⟨t.toArray⟩=t.map qd:=by simp[byteCells]
 rw[c,b] at h;exact h
theorem bq(v:Value)(m:Nat)(xs t:By)(base:Nat)(w:World)(S:xs.length=m)(T:m<1099511627776)(R:t.length<1099511627776)(B:base<=w.heap.size)(d:w.ownsRow base 5 1 v m (xs.map qd)):Calls prog 130 #[v,je t] w λe w'=>∃ p c,e=.returned (.slice p (m+1+t.length) c)/\w'.ownsRow base 5 1 (.slice p (m+1+t.length) c) (m+1+t.length) ((xs++Rf.text t).map qd)/\Grown w v w' (.slice p (m+1+t.length) c):=by
 obtain⟨O,U,rfl⟩:=jl d;obtain⟨C,E,n,l,k⟩:=info_parts Tryz.su;have q:((t.length:Int)%256)=((UInt8.ofNat (t.length%256)).toNat:Int):=zG;change Hid _ at q;have g:=d.alloc<|.cells #[.int .u8 ((t.length:Int)%256)] 5;have H:∀ u∈[Value.int .u8 ((t.length:Int)%256)],u.oneCell'=true:=by intro u D;simp at D;subst D;rfl
 have z:Hid (m+1<=maxLen):=by unfold Hid maxLen;omega
 have y:Hid ((m+1)*1<=140737488355328):=by unfold Hid;omega
 have s:Hid (m+1+t.length<=maxLen):=by unfold Hid maxLen;omega
 have r:Hid ((m+1+t.length)*1<=140737488355328):=by unfold Hid;omega
 have F:base<=(w.alloc<|.cells #[.int .u8 ((t.length:Int)%256)] 5).heap.size:=by simp;omega
 have I:(⟨t.toArray⟩:ByteArray).size=t.length:=by simp[ByteArray.size]
 go_enter func130,ntmps130;go_wp2_with (first|(at_builtin;refine jo _ rfl (.tmp 5) (.tmp 9) 42 rfl base 5 C (.int .u8 0) 1 1 underlying42 E n l k rfl zE _ _ _ rfl g (A2 w.heap.size) 1 1 [.int .u8 ((t.length:Int)%256)] rfl rfl (cell_one_new _ _ _) H z y F ?_;intro N J M f o j)|(at_builtin;refine zz _ rfl (.tmp 10) (.tmp 11) 42 9 rfl base 5 C (.int .u8 0) 1 1 underlying42 E n l k rfl zE _ _ _ rfl f _ t.length _ rfl (jnd _ t) s r ?_ ?_;exact zW F o.size;intro G A L b x i)|go_in);go_ret;refine⟨G,A,rfl,?_,(Grown.of (ja.alloc w _ _) _).trans<|(Grown.grown o j).trans<|Grown.grown x i⟩;rw[q.out] at b;have e:(xs++Rf.text t).map qd=(xs.map qd++[.int .u8 ((UInt8.ofNat (t.length%256)).toNat:Int)])++t.map qd:=by simp[Rf.text,Rf.tq]
 rw[e];exact b
theorem jnn{s:Nat}(h:v2.ownBlock=v.ownBlock\/v2.ownBlock=some s)(c:¬some b=v.ownBlock)(d:b<s):¬some b=v2.ownBlock:=by grind
theorem Yu(b:Array Value)(w:World):(callFunc 130 b).run prog w=.ok (.enter 130 b) w:=by kernel_rfl
theorem Grown.boxed{f d:World}{v3:Value}{o:Obj}(g:Grown f v2 d v3)(h:f.heap[b]?=some o)(c:¬some b=v2.ownBlock):d.heap[b]?=some o:=g.keeps.same h c
theorem I8(v:Value)(m:Nat)(xs:By)(c:Rf.Ch)(base:Nat)(w:World)(hm:xs.length=m)(hl:m<549755813888)(hk:c.key.length<1048576)(hv:c.value.length<1048576)(a9:base<=w.heap.size)(r:w.ownsRow base 5 1 v m (xs.map qd)):Calls prog 119 #[v,chV c] w λe w'=>∃ p cp,e=.returned (.slice p (m+(Rf.entry c).length) cp)/\w'.ownsRow base 5 1 (.slice p (m+(Rf.entry c).length) cp) (m+(Rf.entry c).length) ((xs++Rf.entry c).map qd)/\Grown w v w' (.slice p (m+(Rf.entry c).length) cp):=by
 obtain⟨Z,t,rfl⟩:=jl r;obtain⟨W,I,R,O,N⟩:=info_parts Tryz.su;obtain⟨k,x,g⟩:=c;simp only at hk hv;have s:=r.alloc<|.cells #[je k,je x,.bool g] 47;have d:=r.lt;have H:¬some w.heap.size=(Value.slice Z m t).ownBlock:=λe=>by grind
 have ai:(w.alloc<|.cells #[je k,je x,.bool g] 47).heap.size=w.heap.size+1:=by simp
 have C:∀ y:Int,∀ j u,[Value.int .u8 y][j]?=some u->((w.alloc<|.cells #[je k,je x,.bool g] 47).alloc<|.cells #[.int .u8 y] 5).cell? (((A2 (w.heap.size+1)):Addr).add j)=some u:=by grind [cell_one_new]
 have D:∀ y:Int,∀ u∈[Value.int .u8 y],u.oneCell'=true:=by intro y u d;simp at d;subst d;rfl
 have V:Hid (m+1<=maxLen):=by unfold Hid maxLen;omega
 have U:Hid ((m+1)*1<=140737488355328):=by unfold Hid;omega
 have A:∀ o,Hid (base<=((w.alloc<|.cells #[je k,je x,.bool g] 47).alloc o).heap.size):=by intro o;unfold Hid;simp;omega
 have d:∀ o,ja w ((w.alloc<|.cells #[je k,je x,.bool g] 47).alloc o) N_:=λo=>((ja.refl w _).more _).more _
 have z:∀ o,((w.alloc<|.cells #[je k,je x,.bool g] 47).alloc o).heap[w.heap.size]?=some (.cells #[je k,je x,.bool g] 47 (0,0)):=λo=>(Below.heap_alloc _ o _<|by simp).trans<|jf w _
 have a5:Hid (∀ o,w.heap.size<((w.alloc<|.cells #[je k,je x,.bool g] 47).alloc o).heap.size):=by intro o;simp;omega
 have u:Hid (∀ y:UInt8,(xs++[y]).length=m+1):=by intro y;simp;omega
 have L3:Hid ((xs++[1]++Rf.text k).length=m+1+1+k.length):=by grind [Hid,Rf.text,Rf.jm]
 have S:m+1<1099511627776:=by omega
 have a6:m+1+1+k.length<1099511627776:=by omega
 have T:k.length<1099511627776:=by omega
 have a4:x.length<1099511627776:=by omega
 have o:=jb z;have y:=jb d;clear z d;cases g with|true=>go_enter func119,ntmps119;go_wp2_with fail;go_region_law (first|(refine qx rfl (.tmp 7) (.tmp 8) 42 rfl base 5 W (.int .u8 0) 1 1 underlying42 I R O N rfl xW _ m _ rfl (s.alloc _) (A2 (w.heap.size+1)) 1 1 [.int .u8 2] rfl rfl (C 2) (D 2) V U (A _).out ?_;intro L q E b l i;have F:=(ja.grown l).same (o.out _) H;have M:=zK 0 F;simp at M;clear F;have B:base<=E.heap.size:=zW (A _).out l.size;have J:Grown w (.slice Z m t) E (.slice L (m+1) q):=Grown.trans (Grown.of (y.out _).draw _)<|Grown.grown l i;(have n:((xs++[2]).map qd)=xs.map qd++[.int .u8 2]:=by simp);rw[<-n] at b;clear n)|(refine jx rfl 130 [.tmp 9,.tmp 11] _ rfl Yu _ rfl (bq (.slice L (m+1) q) (m+1) (xs++[2]) k base E (u.out 2) S T B b) ?_;rintro e X ⟨Y,j,rfl,f,d⟩;refine⟨_,rfl,?_⟩));all_goals go_wp2;go_ret;(have g:xs++[2]++Rf.text k=xs++Rf.entry ⟨k,x,true⟩:=by simp[Rf.entry]);(have G:m+1+1+k.length=m+(Rf.entry ⟨k,x,true⟩).length:=by simp[Rf.entry,Rf.text,Rf.jm];omega);rw[g,G] at f;rw[G] at d;rw[G];exact⟨Y,j,rfl,f,J.trans d⟩|false=>go_enter func119,ntmps119;go_wp2_with fail;go_region_law (first|(refine qx rfl (.tmp 13) (.tmp 14) 42 rfl base 5 W (.int .u8 0) 1 1 underlying42 I R O N rfl xW _ m _ rfl (s.alloc _) (A2 (w.heap.size+1)) 1 1 [.int .u8 1] rfl rfl (C 1) (D 1) V U (A _).out ?_;intro L q E b l i;have F:=(ja.grown l).same (o.out _) H;have M:=zK 0 F;have o:=zK 1 F;simp at M o;have s:=jb F;clear F;have B:base<=E.heap.size:=zW (A _).out l.size;have J:Grown w (.slice Z m t) E (.slice L (m+1) q):=Grown.trans (Grown.of (y.out _).draw _)<|Grown.grown l i;(have n:((xs++[1]).map qd)=xs.map qd++[.int .u8 1]:=by simp);rw[<-n] at b;clear n)|(refine jx rfl 130 [.tmp 15,.tmp 17] _ rfl Yu _ rfl (bq (.slice L (m+1) q) (m+1) (xs++[1]) k base E (u.out 1) S T B b) ?_;rintro e X ⟨Y,j,rfl,f,d⟩;have n:base<=X.heap.size:=zW B d.keeps.size;have a8:=J.trans d;have W:=jnn i H<|a5.out _;have I:=d.boxed s W;have M:=zK 0 I;have o:=zK 1 I;simp at M o;clear I;refine⟨_,rfl,?_⟩)|(refine jx rfl 130 [.tmp 18,.tmp 20] _ rfl Yu _ rfl (bq (.slice Y (m+1+1+k.length) j) (m+1+1+k.length) (xs++[1]++Rf.text k) x base X L3 a6 a4 n f) ?_;rintro e d ⟨d,f,rfl,t,D⟩;refine⟨_,rfl,?_⟩));all_goals go_wp2;go_ret;(have g:xs++[1]++Rf.text k++Rf.text x=xs++Rf.entry ⟨k,x,false⟩:=by simp[Rf.entry]);(have G:m+1+1+k.length+1+x.length=m+(Rf.entry ⟨k,x,false⟩).length:=by simp[Rf.entry,Rf.text,Rf.jm];omega);rw[g,G] at t;rw[G] at D;rw[G];exact⟨d,f,rfl,t,a8.trans D⟩
