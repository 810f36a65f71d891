/-
-/
import Derived.WalkSpells
import Derived.WalkLawsBesides
import Derived.Test.YtmjgfacoogdcdaaGreatDoorO11
set_option maxRecDepth 100000
set_option maxHeartbeats 8000000
set_option linter.all false
namespace Go.Proofs.YtmjgfacoogdcdaaGreatDoor
open RowKit Maps WideShapes Go.Proofs.Tryz
variable {l:List Rf.Ch} {w w':World} {v v2:Value} {b:Nat}
abbrev chV(c:Rf.Ch):Value:=.agg #[jc c.key,jc c.value,.bool c.gone]
def jh(l:aD):List Value:=l.flatMap λc=>[jc c.key,jc c.value,.bool c.gone]
theorem za(l:aD)(c:Rf.Ch):jh (l++[c])=jh l++jh [c]:=by simp[jh]
theorem qv(l:aD):(jh l).length=l.length*3:=by induction l with|nil=>rfl|cons c r ih=>grind [jh,zZ]
theorem Yu(l:aD):∀ u∈jh l,u.oneCell'=true:=by intro u b;simp only[jh,List.mem_flatMap] at b;obtain⟨c,_,b⟩:=b;simp at b;obtain rfl|rfl|rfl:=b<;>rfl
theorem bm{k:Nat}(h:k<l.length):(jh l)[k*3]?=some (jc l[k].key)/\(jh l)[k*3+1]?=some (jc l[k].value)/\(jh l)[k*3+2]?=some (.bool l[k].gone):=by induction l generalizing k with|nil=>simp at h|cons c r ih=>cases k with|zero=>simp[jh]|succ k=>grind [jh]
def Chs(w:World)(v:Value)(l:aD):Prop :=
 ∃ p c,v=.slice p l.length c/\l.length<=c/\c<=maxLen/\(p=none->c=0)/\∀ ad,p=some ad->ad.spot=none/\∀ j u,(jh l)[j]?=some u->w.cell? (ad.add j)=some u
theorem Chs.keep{T:Nat->Prop}(h:Chs w v l)(d:ja w w' T)(f:l≠[]->∀ p n c,v=.slice (some p) n c->¬T p.block):Chs w' v l:=by obtain⟨p,c,rfl,k,i,g,b⟩:=h;exact⟨p,c,rfl,k,i,g,λad e=>⟨(b ad e).1,λj u hu=>d.cell ((b ad e).2 j u hu)<|by rw[Qf];exact f (λe=>by grind [jh]) ad _ _<|by rw[e]⟩⟩
theorem Chs.same(h:Chs w v l)(b:ja w w' No):Chs w' v l:=h.keep b λ_ _ _ _ _ h=>h
theorem Chs.lt{p:Addr}{n c:Nat}(h:Chs w (.slice (some p) n c) l)(b:l≠[]):p.block<w.heap.size:=by obtain⟨f,k,e,j,i,g,d⟩:=h;cases e;cases l with|nil=>exact absurd rfl b|cons x r=>have:=xX w _ ((d p rfl).2 0 (jc x.key)<|by simp[jh]);rwa [Qf] at this
theorem Chs.nil(w:World):Chs w S7 []:=⟨none,0,rfl,zR _,ZC _,λ_=>rfl,λ_ h=>by cases h⟩
theorem x7{base:Nat}(h:w.ownsRow base 53 3 v l.length (jh l)):Chs w v l:=by obtain⟨e,i⟩|⟨g,cap,f,e,_,d,c,b,_⟩:=h.2;grind [Chs.nil];refine⟨some (aC g),cap,e,c,b,(λh=>by cases h),λad had=>?_⟩;cases had;exact⟨rfl,λj u hu=>h.cells (by rw[e];rfl) j _ hu⟩
theorem Zp{l h:By}(g:Bytes w v l)(i:Rf.qk l=some (h,[]))(j:l.length<1099511627776):Calls prog 150 #[v] w λe w'=>∃ v1,e=.returned (.tuple #[v1,.nilIface])/\Bytes w' v1 h/\ja w w' No:=by go_enter func150,ntmps150;go_wp2_with fail;refine(Cf g i j).mono ?_;rintro e k ⟨v1,d,⟨v2,b,rfl⟩,f⟩;obtain⟨p,c,rfl,_⟩:=b;go_wp2;go_ret2;exact⟨_,rfl,d,f⟩
theorem l9{E:Nat->Addr}{B:Nat}{l:By}(S:Qg E B w)(n:B<=w.heap.size)(g:Bytes w v l)(u:∀ h,Rf.qk l≠some (h,[]))(i:l.length<1099511627776):Calls prog 150 #[v] w λe w'=>∃ v1,e=.returned (.tuple #[S7,v1])/\Q8 E w' v1/\ja w w' No:=by cases hf:Rf.qk l with|none=>go_enter func150,ntmps150;go_wp2_with fail;refine(Ao S n g hf i).mono ?_;rintro e k ⟨v1,rfl,j,b⟩;obtain⟨t,a,rfl⟩:=j.shape;go_wp2;go_ret2;exact⟨_,rfl,j,b⟩|some x=>obtain⟨h,q⟩:=x;(have y:0<q.length:=zF);go_enter func150,ntmps150;go_wp2_with fail;refine(Cf g hf i).mono ?_;rintro e k ⟨v1,o,⟨v2,f,rfl⟩,b⟩;obtain⟨p,c,rfl,_⟩:=f;have s:=(S.same b).cell 3 zE;go_wp2_with fail;refine(ym _<|.base (E:=E) 3 zE).mono ?_;rintro e r ⟨v3,rfl,d,m⟩;go_wp2;go_ret2;exact⟨_,rfl,⟨_,zE,d⟩,b.tt m⟩
theorem dm(c:Rf.Ch)(m:c.key.length<1099511627776)(l:c.value.length<1099511627776)(w:World):Calls prog 65 #[chV c] w λe w'=>e=.returned (.bool (Rf.allowed c))/\ja w w' No:=by
 obtain⟨k,v,g⟩:=c;simp only at m l;have i:v.isEmpty=true\/v.isEmpty=false:=by cases v.isEmpty<;>simp
 have d:∀(b:Bool),(b=Rf.allowed ⟨k,v,g⟩)->(Ending.returned (.bool b)=.returned (.bool<|Rf.allowed ⟨k,v,g⟩)):=λb e=>by rw[e]
 change Hid _ at d;have j:Hid (Rf.allowed ⟨k,v,g⟩=(decide (1<=k.length)&&decide (k.length<=16)&&decide (v.length<=40)&&!(g&&decide (v≠[])))):=rfl;generalize hQ:Rf.allowed ⟨k,v,g⟩=Q at d j ⊢;clear hQ;obtain i|i:=i<;>cases g;all_goals (have f:v=[]↔v.isEmpty=true:=zD);have n:=jb f;clear f;go_enter func65,ntmps65;go_wp2
 all_goals go_ret;refine⟨d.out _ ?_,ja.alloc w _ _⟩;have o:=n.out;rw[j.out];grind
theorem jkq(w:World)(t:By):Src prog 1 9 (jc t) t.length (t.map j7) w:=by
 have h:=Src.ofString (P:=prog) w underlying9 ⟨t.toArray⟩;have c:(⟨t.toArray⟩:ByteArray).size=t.length:=by simp[ByteArray.size]
 have b:byteCells ⟨t.toArray⟩=t.map j7:=by simp[byteCells]
 rw[c,b] at h;exact h
theorem Z9(v:Value)(m:Nat)(xs t:By)(base:Nat)(w:World)(S:xs.length=m)(T:m<1099511627776)(R:t.length<1099511627776)(B:base<=w.heap.size)(d:w.ownsRow base 5 1 v m (xs.map j7)):Calls prog 158 #[v,jc t] w λe w'=>∃ p c,e=.returned (.slice p (m+1+t.length) c)/\w'.ownsRow base 5 1 (.slice p (m+1+t.length) c) (m+1+t.length) ((xs++Rf.text t).map j7)/\Grown w v w' (.slice p (m+1+t.length) c):=by
 obtain⟨O,U,rfl⟩:=ji d;obtain⟨C,E,n,l,k⟩:=info_parts Tryz.vf;have q:((t.length:Int)%256)=((UInt8.ofNat (t.length%256)).toNat:Int):=zG;change Hid _ at q;have g:=d.alloc<|.cells #[.int .u8 ((t.length:Int)%256)] 5;have H:∀ u∈[Value.int .u8 ((t.length:Int)%256)],u.oneCell'=true:=by intro u D;simp at D;subst D;rfl
 have z:Hid (m+1<=maxLen):=by unfold Hid maxLen;omega
 have y:Hid ((m+1)*1<=140737488355328):=by unfold Hid;omega
 have s:Hid (m+1+t.length<=maxLen):=by unfold Hid maxLen;omega
 have r:Hid ((m+1+t.length)*1<=140737488355328):=by unfold Hid;omega
 have F:base<=(w.alloc<|.cells #[.int .u8 ((t.length:Int)%256)] 5).heap.size:=by simp;omega
 have I:(⟨t.toArray⟩:ByteArray).size=t.length:=by simp[ByteArray.size]
 go_enter func158,ntmps158;go_wp2_with (first|(at_builtin;refine jl _ rfl (.tmp 5) (.tmp 9) 48 rfl base 5 C (.int .u8 0) 1 1 underlying48 E n l k rfl zE _ _ _ rfl g (aC w.heap.size) 1 1 [.int .u8 ((t.length:Int)%256)] rfl rfl (cell_one_new _ _ _) H z y F ?_;intro N J M f o j)|(at_builtin;refine zv _ rfl (.tmp 10) (.tmp 11) 48 9 rfl base 5 C (.int .u8 0) 1 1 underlying48 E n l k rfl zE _ _ _ rfl f _ t.length _ rfl (jkq _ t) s r ?_ ?_;exact zT F o.size;intro G A L b x i)|go_in);go_ret;refine⟨G,A,rfl,?_,(Grown.of (ja.alloc w _ _) _).trans<|(Grown.grown o j).trans<|Grown.grown x i⟩;rw[q.out] at b;have e:(xs++Rf.text t).map j7=(xs.map j7++[.int .u8 ((UInt8.ofNat (t.length%256)).toNat:Int)])++t.map j7:=by simp[Rf.text,Rf.sn]
 rw[e];exact b
theorem jk0{s:Nat}(h:v2.ownBlock=v.ownBlock\/v2.ownBlock=some s)(c:¬some b=v.ownBlock)(d:b<s):¬some b=v2.ownBlock:=by grind
theorem Yn(b:Array Value)(w:World):(callFunc 158 b).run prog w=.ok (.enter 158 b) w:=by kernel_rfl
theorem Grown.boxed{f d:World}{v3:Value}{o:Obj}(g:Grown f v2 d v3)(h:f.heap[b]?=some o)(c:¬some b=v2.ownBlock):d.heap[b]?=some o:=g.keeps.same h c
theorem Ha(v:Value)(m:Nat)(xs:By)(c:Rf.Ch)(base:Nat)(w:World)(hm:xs.length=m)(hl:m<549755813888)(hk:c.key.length<1048576)(hv:c.value.length<1048576)(aa:base<=w.heap.size)(s:w.ownsRow base 5 1 v m (xs.map j7)):Calls prog 117 #[v,chV c] w λe w'=>∃ p cp,e=.returned (.slice p (m+(Rf.entry c).length) cp)/\w'.ownsRow base 5 1 (.slice p (m+(Rf.entry c).length) cp) (m+(Rf.entry c).length) ((xs++Rf.entry c).map j7)/\Grown w v w' (.slice p (m+(Rf.entry c).length) cp):=by
 obtain⟨Z,c0,rfl⟩:=ji s;obtain⟨j0,hj,R,O,N⟩:=info_parts Tryz.vf;obtain⟨k,x,g⟩:=c;simp only at hk hv;have t:=s.alloc<|.cells #[jc k,jc x,.bool g] 53;have an:=s.lt;have H:¬some w.heap.size=(Value.slice Z m c0).ownBlock:=λe=>zF
 have ag:(w.alloc<|.cells #[jc k,jc x,.bool g] 53).heap.size=w.heap.size+1:=zD;have C:∀ y:Int,∀ j u,[Value.int .u8 y][j]?=some u->((w.alloc<|.cells #[jc k,jc x,.bool g] 53).alloc<|.cells #[.int .u8 y] 5).cell? (((aC (w.heap.size+1)):Addr).add j)=some u:=by grind [cell_one_new]
 have h1:∀ y:Int,∀ u∈[Value.int .u8 y],u.oneCell'=true:=by intro y u hu;simp at hu;subst hu;rfl
 have V:Hid (m+1<=maxLen):=by unfold Hid maxLen;omega
 have U:Hid ((m+1)*1<=140737488355328):=by unfold Hid;omega
 have A:∀ o,Hid (base<=((w.alloc<|.cells #[jc k,jc x,.bool g] 53).alloc o).heap.size):=by intro o;unfold Hid;simp;omega
 have kk:∀ o,ja w ((w.alloc<|.cells #[jc k,jc x,.bool g] 53).alloc o) No:=λo=>((ja.refl w _).more _).more _
 have n:∀ o,((w.alloc<|.cells #[jc k,jc x,.bool g] 53).alloc o).heap[w.heap.size]?=some (.cells #[jc k,jc x,.bool g] 53 (0,0)):=λo=>(Below.heap_alloc _ o _ zD).trans<|je w _
 have a6:Hid (∀ o,w.heap.size<((w.alloc<|.cells #[jc k,jc x,.bool g] 53).alloc o).heap.size):=by intro o;simp;omega
 have LL:Hid (∀ y:UInt8,(xs++[y]).length=m+1):=by intro y;simp;omega
 have L3:Hid ((xs++[1]++Rf.text k).length=m+1+1+k.length):=by grind [Hid,Rf.text,Rf.jk]
 have S:m+1<1099511627776:=zC;have a7:m+1+1+k.length<1099511627776:=zC;have T:k.length<1099511627776:=zC;have a5:x.length<1099511627776:=zC;change Hid _ at n kk;cases g with|true=>go_enter func117,ntmps117;go_wp2_with fail;go_region_law (first|(refine qy rfl (.tmp 7) (.tmp 8) 48 rfl base 5 j0 (.int .u8 0) 1 1 underlying48 hj R O N rfl ZE _ m _ rfl (t.alloc _) (aC (w.heap.size+1)) 1 1 [.int .u8 2] rfl rfl (C 2) (h1 2) V U (A _).out ?_;intro L r E b l i;have F:=(ja.grown l).same (n.out _) H;have M:=zK 0 F;simp at M;clear F;have B:base<=E.heap.size:=zT (A _).out l.size;have J:Grown w (.slice Z m c0) E (.slice L (m+1) r):=Grown.trans (Grown.of (kk.out _).draw _)<|Grown.grown l i;(have q:((xs++[2]).map j7)=xs.map j7++[.int .u8 2]:=zD);rw[<-q] at b;clear q)|(refine jt rfl 158 [.tmp 9,.tmp 11] _ rfl Yn _ rfl (Z9 (.slice L (m+1) r) (m+1) (xs++[2]) k base E (LL.out 2) S T B b) ?_;rintro e X ⟨Y,c3,rfl,f,d⟩;refine⟨_,rfl,?_⟩));all_goals go_wp2;go_ret;(have ee:xs++[2]++Rf.text k=xs++Rf.entry ⟨k,x,true⟩:=by simp[Rf.entry]);(have G:m+1+1+k.length=m+(Rf.entry ⟨k,x,true⟩).length:=by simp[Rf.entry,Rf.text,Rf.jk];omega);rw[ee,G] at f;rw[G] at d;rw[G];exact⟨Y,c3,rfl,f,J.trans d⟩|false=>go_enter func117,ntmps117;go_wp2_with fail;go_region_law (first|(refine qy rfl (.tmp 13) (.tmp 14) 48 rfl base 5 j0 (.int .u8 0) 1 1 underlying48 hj R O N rfl ZE _ m _ rfl (t.alloc _) (aC (w.heap.size+1)) 1 1 [.int .u8 1] rfl rfl (C 1) (h1 1) V U (A _).out ?_;intro L r E b l i;have F:=(ja.grown l).same (n.out _) H;have M:=zK 0 F;have e1:=zK 1 F;simp at M e1;have HH:=jb F;clear F;have B:base<=E.heap.size:=zT (A _).out l.size;have J:Grown w (.slice Z m c0) E (.slice L (m+1) r):=Grown.trans (Grown.of (kk.out _).draw _)<|Grown.grown l i;(have q:((xs++[1]).map j7)=xs.map j7++[.int .u8 1]:=zD);rw[<-q] at b;clear q)|(refine jt rfl 158 [.tmp 15,.tmp 17] _ rfl Yn _ rfl (Z9 (.slice L (m+1) r) (m+1) (xs++[1]) k base E (LL.out 1) S T B b) ?_;rintro e X ⟨Y,c3,rfl,f,d⟩;have a8:base<=X.heap.size:=zT B d.keeps.size;have a9:=J.trans d;have W:=jk0 i H<|a6.out _;have I:=d.boxed HH W;have M:=zK 0 I;have e1:=zK 1 I;simp at M e1;clear I;refine⟨_,rfl,?_⟩)|(refine jt rfl 158 [.tmp 18,.tmp 20] _ rfl Yn _ rfl (Z9 (.slice Y (m+1+1+k.length) c3) (m+1+1+k.length) (xs++[1]++Rf.text k) x base X L3 a7 a5 a8 f) ?_;rintro e w4 ⟨p4,c4,rfl,z,D⟩;refine⟨_,rfl,?_⟩));all_goals go_wp2;go_ret;(have ee:xs++[1]++Rf.text k++Rf.text x=xs++Rf.entry ⟨k,x,false⟩:=by simp[Rf.entry]);(have G:m+1+1+k.length+1+x.length=m+(Rf.entry ⟨k,x,false⟩).length:=by simp[Rf.entry,Rf.text,Rf.jk];omega);rw[ee,G] at z;rw[G] at D;rw[G];exact⟨p4,c4,rfl,z,a9.trans D⟩
