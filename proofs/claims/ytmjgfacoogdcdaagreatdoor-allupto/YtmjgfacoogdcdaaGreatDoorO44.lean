/-
-/
import Derived.Lib.ConvBytes
import Derived.Test.YtmjgfacoogdcdaaGreatDoorO43
set_option maxRecDepth 100000
set_option maxHeartbeats 8000000
set_option linter.all false
namespace Go.Proofs.YtmjgfacoogdcdaaGreatDoor
open RowKit Maps WideShapes Go.Proofs.Tryz
variable {V:List (Str×List UInt8)} {B c d f g k n:Nat} {E:Nat->Addr} {W w wr:World} {nm:Str} {p:Option Addr} {b:List UInt8}
theorem View.laid{S:jg}(h:View S V)(j:S.files f=Option.none)(n:Str)(b:By):View (S.laid n f b) (yd V n b):=by
 obtain⟨T,F,q⟩:=h;have d:∀ p∈ju T n,p.2≠f:=λp c e=>by obtain⟨a,g⟩:=F.files p (qo.1 c).1;rw[e,j] at g;cases g
 refine⟨(n,f)::ju T n,⟨F.Ai.put n f,λp c=>?_,xP.2 ⟨λp c=>Ne.symm<|d p c,F.apart.sublist xN⟩⟩,?_⟩;obtain rfl|c:=xB.1 c;exact⟨⟨b,b.length,[]⟩,by simp[jg.laid]⟩;obtain⟨a,g⟩:=F.files p (qo.1 c).1;exact⟨a,by grind [jg.laid]⟩;have i:(ju V n).Perm (Xx S.files<|ju T n):=by rw[<-Yi];exact q.filter _
 refine(i.cons (n,b)).trans<|List.Perm.of_eq ?_;unfold Xx;rw[xO];congr 1;simp[Z6,jg.laid];refine xR λp c=>?_
 have:=d p c;simp[Z6,jg.laid,this]
theorem Fit.laid{S:jg}(h:Fit k S)(j:S.files f=none)(n:Str)(b:By):Fit (k+1+n.length+b.length) (S.laid n f b):=by obtain⟨V,d⟩:=h.view;have i:=d.laid j n b;have p:=Fg S.names (.string n)<|.held f;have o:=h.names;have l:=h.total;rw[d.total] at l;refine⟨i.fs,by show Maps.size (S.names.put _ _)<=_;omega,by show Maps.size (S.names.put _ _)+0<=_;omega,?_,λg a ha=>?_,?_,λm c=>?_⟩;obtain⟨T,F⟩:=h.fs;obtain⟨es,e,_⟩:=F.Ai.1;exact IsMap.put ⟨_,e⟩ _ _;by_cases e:g=f;simp[jg.laid,e] at ha;subst ha;simp<;>omega;simp[jg.laid,e] at ha;have:=h.files g a ha;omega;rw[i.total];have:=xj V n;rw[yd,Jq];simp only;omega;obtain rfl|c:=Hl (i.keys.mem_iff.1 c);omega;have:=h.key d m c;omega
theorem jlx{ρ:Nat->jz}(D:DW E B w ρ d V k)(q:k<540000000000)(o:nm.length<1000000000)(r:b.length<1000000000)(l:Reads w (.slice p b.length c) b):Calls prog 17 #[aA d,jc nm,.slice p b.length c] w λe w'=>e=.returned (.tuple #[])/\∃ ρ',DW E B w' ρ' d (yd V nm b) (k+1+nm.length+b.length)/\xq w ρ w' ρ':=by obtain⟨S,D,m,n,j⟩:=D;refine(jhm nm p c b D.rep (j.small zC) zC zC l).mono ?_;rintro e w' ⟨rfl,f,i,ρ',R,g⟩;exact⟨rfl,ρ',⟨_,D.step g R,m.C9 rfl rfl,n.laid i nm b,j.laid i nm b⟩,g⟩
theorem ja.conv(w:World)(e:TypeId)(b:ByteArray)(T:Nat->Prop):ja w (Lib.bytesWorld w e b) T:=⟨rfl,rfl,rfl,by rw[Lib.bytesWorld_size];omega,λk hk _=>Lib.bytesWorld_at_old w e b k hk⟩
theorem Bh(w:World)(b:By)(c:Nat):Reads (Lib.bytesWorld w 5 ⟨b.toArray⟩) (.slice (some (aC w.heap.size)) b.length c) b:=by refine .inr ⟨_,c,rfl,λj u hu=>?_⟩;rw[XT] at hu;obtain⟨a,f,rfl⟩:=XE.1 hu;obtain⟨d,e⟩:=ZT.1 f;rw[add_zero,Lib.bytesWorld_cell w 5 ⟨b.toArray⟩ j (by show j<b.toArray.size;simpa using d)];simp_all
theorem Dj(w:World)(b:By):(convert 9 48 (jc b)).run prog w=.ok (.slice (some (aC w.heap.size)) b.length (grownCap w b.length 0 5)) (Lib.bytesWorld w 5 ⟨b.toArray⟩):=by
 have h:=Lib.run_convert_string_bytes (P:=prog) w 9 48 5 ⟨b.toArray⟩ underlying9 underlying48 underlying5;have e:(ByteArray.mk b.toArray).size=b.length:=by show b.toArray.size=_;simp
 rw[e] at h;exact h
theorem Vv(z:Int):-9223372036854775808<=IntKind.i64.wrap z/\IntKind.i64.wrap z<=9223372036854775807:=by rw[IntKind.wrap_i64];omega
def Bz(w:World)(g n:Nat):Prop:=∃ cur F,w.heap[g]?=some (.cells cur 5 (F,F+1))/\n<=F/\∀ j,j<n->∃ u:UInt8,cur[j]?=some (j7 u)
theorem Bz.at(h:Bz w g n){j:Nat}(d:j<n):∃ u:UInt8,w.cell? (B3 g j)=some (j7 u)/\w.frozen? (B3 g j)=false:=by obtain⟨i,F,b,k,f⟩:=h;obtain⟨u,c⟩:=f j d;refine⟨u,by rw[zM b];exact c,?_⟩;simp[World.frozen?,b];omega
theorem Bz.set(h:Bz w g n)(j:Nat)(u:UInt8):Bz (w.setCell (B3 g j) (j7 u)) g n:=by obtain⟨l,F,k,f,d⟩:=h;refine⟨_,F,jd k _,f,λi hi=>?_⟩;obtain⟨v,b⟩:=d i hi;rw[Array.getElem?_setIfInBounds];have c:=(Array.getElem?_eq_some_iff.1 b).1;by_cases e:j=i;subst e;rw[if_pos rfl,if_pos c];exact⟨u,rfl⟩;rw[if_neg e];exact⟨v,b⟩
theorem Bz.bytes(h:Bz w g n)(k:n<=c)(i:c<=maxLen):∃ L:By,L.length=n/\Bytes w (.slice (some (aC g)) n c) L:=by
 have H:∀ m,m<=n->∃ L:By,L.length=m/\∀ j u,L[j]?=some u->w.cell? (B3 g j)=some (j7 u):=by intro m;induction m with|zero=>exactλ_=>⟨[],rfl,λj u b=>by simp at b⟩|succ m ih=>intro i;obtain⟨L,d,f⟩:=ih zC;obtain⟨u,b,_⟩:=h.at (j:=m) zC;refine⟨L++[u],by simp[d],λj v hv=>?_⟩;rw[List.getElem?_append] at hv;split at hv;exact f j v hv;(have e:j=m:=by have:=(ZT.1 hv).1;simp at this;omega);subst e;rw[d,XD] at hv;simp at hv;rw[<-hv];exact b
 obtain⟨L,d,f⟩:=H n<|zR _;refine⟨L,d,some (aC g),c,by rw[d],zC,i,λe=>(by cases e),λad e=>?_⟩;cases e;refine⟨rfl,λj u b=>?_⟩;rw[add_zero];exact f j u b
theorem jjx(w:World)(b:By):Bz (Lib.bytesWorld w 5 ⟨b.toArray⟩) w.heap.size b.length:=by refine⟨_,_,Lib.bytesWorld_at_new w 5 ⟨b.toArray⟩,?_,λj hj=>⟨b[j],?_⟩⟩;unfold Lib.bytesCells;simp;unfold Lib.bytesCells;rw[Array.getElem?_append_left (by simpa using hj)];simp[hj]
theorem jhv(s o:By)(a:Int)(V:s.length<1000000000)(U:o.length<1000000000):Calls prog 16 #[jc s,jc o,aB a] w λe w'=>∃ L:By,L.length=s.length/\e=.returned (jc L)/\ja w w' No:=by
 have p:=Dj w s;obtain⟨g,t⟩:=zJ w.heap.size;obtain⟨N,d⟩:=zJ (Lib.bytesWorld w 5 ⟨s.toArray⟩);have M:Hid (ja w N λ_=>False):=(show ja _ _ _ from by rw[d];exact ja.conv _ _ _ _);have r:Hid (Bz N g s.length):=(show Bz _ _ _ from by rw[d,t];exact jjx w s);obtain⟨c,B⟩:=zJ (grownCap w s.length 0 5);have E:Hid (s.length<=c/\c<=maxLen):=(show _/\_ from by rw[B];exact⟨grownCap_ge _ _ _ _,grownCap_le_maxLen _ _ _ _<|by unfold maxLen;omega⟩);rw[<-t,<-d,<-B] at p;have X:=jb t;obtain⟨n,z⟩:=zJ s.length;obtain⟨m,A⟩:=zJ o.length;rw[<-z] at p r E V ⊢;rw[<-A] at U;have HN:=jb z;have a1:o.length=m:=A.symm;clear z A t B d;go_enter func16,ntmps16;go_wp2_with fail;go_loopw [8,9] (λt8 _ wr=>∃ i:Nat,t8 = aB i/\i<=m/\Bz wr g n/\ja w wr No) (λt8 _ _=>m-(intOf t8).toNat);case atStart=>exact⟨0,rfl,ZC _,r,M⟩
 case round=>obtain⟨i,rfl,a5,y,O⟩:=hrel;have T:=jb y;have D:=jb O;obtain⟨L,C,R⟩:=y.bytes (c:=c) E.out.1 E.out.2;have a0:=R.string;change Hid _ at C;clear y O R;obtain a2|a6:=zS i m;(· (have H:(i:Int)<(m:Int):=zC);have Y:IntKind.i64.wrap ((i:Int)+1)=(i:Int)+1:=zQ;obtain S|S:=ZG n;(· subst S;go_wp2;go_ret;exact⟨L,C.out,rfl,D⟩);· (have F:(0:Int)<(n:Int):=zC);obtain⟨b,J⟩:∃ b:Int,IntKind.i64.wrap (a+(i:Int))=b:=⟨_,rfl⟩;(have a8:-9223372036854775808<=b/\b<=9223372036854775807:=by rw[<-J];exact Vv _);(obtain⟨f,q,I⟩:∃ f:Int,(0<=f/\f<=9223372036854775807)/\((b<0/\f = -(b+1))\/(¬b<0/\f=b)):=by by_cases h:b<0;exact⟨-(b+1),zC,.inl ⟨h,rfl⟩⟩;exact⟨b,zC,.inr ⟨h,rfl⟩⟩);obtain⟨j,W⟩:∃ j:Nat,f.tmod (n:Int)=(j:Int):=⟨(f.tmod (n:Int)).toNat,zA<|Int.tmod_nonneg (n:Int) q.1⟩;(have G:j<n:=zA<|Int.tmod_lt_of_pos f F);(have a3:(j:Int)<(n:Int):=zC);obtain⟨u,hu,a7⟩:=T.out.at G;obtain⟨v,hv⟩:∃ v:UInt8,o[i]?=some v:=⟨o[i]'(zC),XG zC⟩;(have l:Hid (∀ x:UInt8,Bz (wr.setCell (B3 g j)<|.int .u8 (((u.toNat:Int)+(x.toNat:Int))%256)).drew g n/\ja w (wr.setCell (B3 g j)<|.int .u8 (((u.toNat:Int)+(x.toNat:Int))%256)).drew No):=λx=>by(have e:Value.int .u8 (((u.toNat:Int)+(x.toNat:Int))%256)=j7 (u+x):=by simp[j7,UInt8.toNat_add]);rw[e];exact⟨T.out.set j (u+x),(D.out.trans (ja.setCell _ _ _) λk hk e=>by have e':k=g:=e;have:=X.out;omega).tt<|ja.drew _ _⟩);(have a4:f%(n:Int)=(j:Int):=by rw[<-W,Int.tmod_eq_emod_of_nonneg q.1]);obtain⟨h,e⟩|⟨h,e⟩:=I;(· have d:IntKind.i64.wrap (b+1)=b+1:=zQ;(have Z:IntKind.i64.wrap (-(b+1))=f:=by rw[zQ,e]);clear e;go_wp2;go_region;(all_goals go_wp2);all_goals exact⟨⟨i+1,zD,zC,(l.out _).1,(l.out _).2⟩,by simp[intOf];omega⟩);· subst e;go_wp2;go_region;(all_goals go_wp2);all_goals exact⟨⟨i+1,zD,zC,(l.out _).1,(l.out _).2⟩,by simp[intOf];omega⟩);· (have H:¬(i:Int)<(m:Int):=zC);go_wp2;go_ret;exact⟨L,C.out,rfl,D⟩
theorem jf7{ρ:Nat->jz}(D:DW E B w ρ d V k)(t:k<540000000000)(m:(nm,b)∈V)(s:nm.length<1000):Calls prog 12 #[aA d,jc nm] w λe w'=>∃ p c,e=.returned (.tuple #[.slice p b.length c,.bool true])/\w'.ownsRow w.heap.size 5 1 (.slice p b.length c) b.length (b.map j7)/\ja w w' No:=by obtain⟨S,D,u,n,o⟩:=D;refine(Ti nm D.rep (o.small zC) zC).mono ?_;obtain⟨f,a,i,r,q⟩:=n.get m;rintro e w' ⟨j,⟨h,_⟩|⟨v,a',p,c,h,g,rfl,l⟩⟩;rw[i] at h;cases h;rw[i] at h;cases h;rw[r] at g;cases g;subst q;exact⟨p,c,rfl,l,j⟩
theorem N7{L:By}(h:Bytes w (.slice p L.length c) L)(n:8<L.length):∃ g o,p=some (B3 g o)/\L.length<=c/\Bytes w (.slice (some ⟨g,o+8,none⟩) (L.length-8) (c-8)) (L.drop 8):=by obtain⟨m,r,e,k,q,i,f⟩:=h;injection e with e1 e2 e3;subst e1;subst e3;cases p with|none=>have:=i rfl;omega|some ad=>obtain⟨b,d⟩:=f ad rfl;obtain⟨g,o,l⟩:=ad;simp only at b;subst b;refine⟨g,o,rfl,k,some ⟨g,o+8,none⟩,c-8,by rw[xH],by rw[xH];omega,zC,λe=>(by cases e),λad e=>?_⟩;cases e;refine⟨rfl,λj u hu=>?_⟩;rw[List.getElem?_drop] at hu;have:=d (8+j) u hu;rw[Q7] at this ⊢;rw[show o+8+j=o+(8+j) by omega];exact this
def es1:aD:=[⟨[97],[49],false⟩]
def jje:By:=[0,0,0,0,0,0,0,2,0,0,0,0,0,0,0,0,0,0,0,0,0,0,0,1,0,0,0,0,0,0,0,0,0,0]
def jjd:By:=[0,0,0,0,0,0,0,1,1,1,1,97,1,49]
theorem Ks(l:By):(Rf.frame l).drop 8=l/\(Rf.frame l).length=l.length+8:=by unfold Rf.frame;constructor;rw[List.drop_append_of_le_length (by simp[Rf.jk])];rw[List.drop_of_length_le (by simp[Rf.jk])];rfl;simp only[ZV,Rf.jk];omega
theorem jgn:Rf.Man.first.bytes.drop 8=jje/\Rf.Man.first.bytes.length=42:=by have e:Rf.Man.first.bytes=Rf.frame jje:=rfl;rw[e];exact Ks jje
theorem jgo:(Rf.jm 0 [es1]).drop 8=jjd/\(Rf.jm 0 [es1]).length=22:=by
 have e:Rf.jm 0 [es1]=Rf.frame jjd:=by(have h:Rf.jm 0 [es1]=Rf.jx 1 es1++Rf.jm 1 []:=by simp[Rf.jm,Rf.jx]);rw[h];have b:Rf.jm 1 []=[]:=rfl;rw[b,ZU];rfl
 rw[e];exact Ks jjd
theorem jke:js 1=[108,111,103,45,49]:=by rw[js,Rf.j8,dif_pos zC];rfl
theorem jk7:(js 1,Rf.jm 0 [es1])∈(Rf.St.first.write es1).files:=by unfold Rf.St.files;exact xJ _ xW
theorem jmd:Mu (Rf.yk (Rf.St.first.write es1).all [97])=([49],true):=by decide
theorem jjw(w:World):Chs (w.alloc (.cells #[.string ⟨#[97]⟩,.string ⟨#[49]⟩,.bool false] 53)) (.slice (some (aC w.heap.size)) 1 1) es1:=by refine⟨_,_,rfl,zE,zE,λe=>(by cases e),λad e=>?_⟩;cases e;refine⟨rfl,λj u hu=>?_⟩;rw[add_zero,zM (je w _)];have e:(#[Value.string ⟨#[97]⟩,.string ⟨#[49]⟩,.bool false]:Array Value)=(jh es1).toArray:=rfl;rw[e];simpa using hu
theorem jd7(H:Env E B W)(hB:B<=W.heap.size):Calls prog 5 #[] W λe w'=>e=.returned (.bool true)/\ja W w' No:=by
 change Hid _ at H hB;go_enter func5,ntmps5;go_wp2_with fail;refine(jkd H.out hB.out).mono ?_;rintro e w1 ⟨d,ρ,rfl,D,N,Y⟩;change Hid _ at D N Y;go_wp2_with fail;refine(jad D.out (H.out.same N.out) zC).mono ?_;rintro e U ⟨b,F,rfl,hb,Z,X,hF⟩;have a6:Hid (Calls prog 12 #[aA d,.string ⟨#[109,97,110,105,102,101,115,116]⟩] U λe w'=>∃ p c,e=.returned (.tuple #[.slice p Rf.Man.first.bytes.length c,.bool true])/\w'.ownsRow U.heap.size 5 1 (.slice p Rf.Man.first.bytes.length c) Rf.Man.first.bytes.length (Rf.Man.first.bytes.map j7)/\ja U w' No):=by obtain⟨ρ2,D2,_⟩:=Z.Jc;exact jf7 D2 zC (nm:=jo) (b:=Rf.Man.first.bytes) (xm.2<|.inl rfl) zE
 have R:=jb Z;change Hid _ at hF X hb;clear Z;go_wp2_with fail;refine a6.out.mono ?_;rintro e o ⟨p3,c3,rfl,A,k3⟩;have v:=jb A;have m:=jb k3;have a9:Hid (Rf.Man.first.bytes.length=42):=jgn.2;rw[a9.out];clear A k3;obtain⟨J,l⟩:=zJ (o.alloc (.cells #[.string ⟨#[97]⟩,.string ⟨#[49]⟩,.bool false] 53));have x:ja o J No:=by rw[l];exact ja.alloc _ _ _
 have ab:Hid (Chs J (.slice (some (aC o.heap.size)) 1 1) es1):=by rw[l];exact jjw o
 have a7:=jb ((R.out.same m.out).same x);have a4:Hid (Calls prog 13 #[aA b,.slice (some (aC o.heap.size)) 1 1] J λe w'=>e=.returned (aB 0)/\Xb E B J d b (Rf.St.first.write es1) (60000+20000) F w'):=by refine jbs a7 zC _ es1 zE ab (λp n c e f=>?_) zE zE (by have y:=Rf.mw (b:=es1) zE (Rf.St.first.last+1);(have O:j2 Rf.St.first.files<=1000:=zE);omega);cases e;have y:=(R.out.old f).2;have O:=m.out.size;have e2:((aC o.heap.size):Addr).block=o.heap.size:=rfl;rw[e2] at y;omega
 change Hid _ at l x;go_wp2_with fail;rw[<-l.out];refine a4.out.mono ?_;rintro e T ⟨rfl,F5,q,M,s⟩;have a5:Hid (Calls prog 12 #[aA d,.string ⟨#[108,111,103,45,49]⟩] T λe w'=>∃ p c,e=.returned (.tuple #[.slice p (Rf.jm 0 [es1]).length c,.bool true])/\w'.ownsRow T.heap.size 5 1 (.slice p (Rf.jm 0 [es1]).length c) (Rf.jm 0 [es1]).length ((Rf.jm 0 [es1]).map j7)/\ja T w' No):=by obtain⟨ρ5,D5,_⟩:=q.Jc;have h:=jf7 D5 zC jk7 (by rw[jke];decide);rw[jke] at h;exact h
 have G:=jb q;change Hid _ at M s;clear q;go_wp2_with fail;refine a5.out.mono ?_;rintro e w6 ⟨p6,c6,rfl,z,V⟩;have I:=jb z;have u:=jb V;have a8:Hid ((Rf.jm 0 [es1]).length=22):=jgo.2;rw[a8.out];have aa:Hid (Calls prog 14 #[aA b,.string ⟨#[97]⟩] w6 λe w'=>e=.returned (.tuple #[jc [49],.bool true,aB 0])/\Own E B w' d b (Rf.St.first.write es1) (60000+20000) F5/\ja w6 w' F5):=by have h:=jkf (G.out.same V) zC [97];rw[jmd] at h;exact h
 clear z V;go_wp2_with fail;refine aa.out.mono ?_;rintro e S ⟨rfl,_,L⟩;have s1:=N.out.size;have s2:=X.out.size;have s3:=m.out.size;have s4:=x.out.size;have s5:=M.out.size;have s6:=u.out.size;have k:Bytes S (.slice p3 Rf.Man.first.bytes.length c3) Rf.Man.first.bytes:=by(have r4:=x.out.row v λ_ _ t=>t);have r5:=M.out.row r4 (λg hg f=>by have y:=(v.out.lt g hg).1;have O:=(R.out.old f).2;omega);(have r6:=u.out.row r5 λ_ _ t=>t);(refine xo<|L.row r6 λg hg f=>?_);have y:=v.out.lt g hg;obtain f|f:=s.out g f;(· have O:=(R.out.old f).2;omega);· omega
 have j:Bytes S (.slice p6 (Rf.jm 0 [es1]).length c6) (Rf.jm 0 [es1]):=by(refine xo<|L.row I λg hg f=>?_);have y:=(I.out.lt g hg).1;have O:=(G.out.old f).2;omega
 have r:∀ i,F i->W.heap.size<=i:=λi f=>by obtain t|t:=hF.out i f;(· exact Y.out i t);· omega
 have C:ja W S No:=by refine((((((N.out.trans X.out λi hi t=>?_).tt m).tt x.out).trans M.out λi hi t=>?_).tt u).trans L λi hi t=>?_);(· have:=Y.out i t;omega);(· have:=r i t;omega);· obtain t|t:=s.out i t;(· have:=r i t;omega);· omega
 change Hid _ at C;clear r s1 s2 s3 s4 s5 s6 L;obtain⟨g1,o1,rfl,a3,k⟩:=N7 k (by rw[jgn.2];omega);obtain⟨g2,o2,rfl,a2,j⟩:=N7 j (by rw[jgo.2];omega);rw[jgn.1,jgn.2] at k;rw[jgo.1,jgo.2] at j;rw[jgn.2] at a3;rw[jgo.2] at a2;have a1:=k.string;have a0:=j.string;unfold jje at a1;unfold jjd at a0;have x1:¬c3=8:=zC;have x2:¬c6=8:=zC;clear k j;go_wp2;go_ret;exact⟨rfl,C.out⟩
def Vm(W:World)(v:Value)(l:List Str):Prop:=∃ p c,v=.slice p l.length c/\∀ k (h:k<l.length),∃ b o,p=some (B3 b o)/\W.cell? ⟨b,o+k,none⟩=some (jc l[k])
def lets:List Str->Nat
 | []=>0
 | c::r=>c.length+1+lets r
theorem F7(a b:List Str):lets (a++b)=lets a+lets b:=by induction a with|nil=>simp[lets]|cons c r ih=>simp only[ZP,lets,ih];omega
theorem jdp{l:List Str}(h:k<l.length):lets (l.take (k+1))=lets (l.take k)+(l[k].length+1):=by rw[zX,XG h,XI,F7];simp[lets]
theorem Nt(l:List Str)(k:Nat):lets (l.take k)<=lets l:=by have:=F7 (l.take k)<|l.drop k;rw[ZY] at this;omega
theorem Kj(l:List Str):l.length<=lets l:=by induction l with|nil=>simp[lets]|cons c r ih=>simp only[zZ,lets];omega
theorem jew{l:List (Str×By)}(h:k<l.length):wgt (l.take (k+1))=wgt (l.take k)+(l[k].1.length+l[k].2.length+1):=by rw[zX,XG h,XI,pd];simp[wgt]
theorem Rz(l:List (Str×By))(k:Nat):wgt (l.take k)<=wgt l:=by have:=pd (l.take k)<|l.drop k;rw[ZY] at this;omega
structure vy where
 nx:Int
 la:Int
 lo:Int
 ba:Int
 bv:Value
 lv:Value
 rv:Value
 xv:Value
 fi:Int
 pl:Int
 wi:Str
 mo:Str
 wo:Bool
 nv:Value
 bs:List (List Rf.Ch)
 bl:List Rf.Ch
 rs:List Int
 xls:List (List Rf.Ch)
 ns:List Str
def vy.cells(x:vy):Array Value:=#[aB x.nx,aB x.la,aB x.lo,aB x.ba,x.bv,x.lv,x.rv,x.xv,aB x.fi,aB x.pl,jc x.wi,jc x.mo,.bool x.wo,x.nv]
structure Fb(W:World)(x:vy):Prop where
 bat:LsR W x.bv x.bs
 bas:Fc W x.lv x.bl
 run:Lu W x.rv x.rs
 rls:LsR W x.xv x.xls
 nam:Vm W x.nv x.ns
 num:I64 x.lo/\I64 x.ba/\I64 x.fi/\∀ r∈x.rs,I64 r
 bulk:yq x.bs+Jw x.bl+yq x.xls+x.rs.length+x.wi.length+x.mo.length+lets x.ns<=1048576
theorem pad{c:List aD}(h:∀ k (h:k<c.length),∃ b o x,p=some (B3 b o)/\W.cell? ⟨b,o+k,none⟩=some x/\Fc W x c[k])(n:Nat):∃(d:List Value) (xs:List aD),d.length=n/\xs.length=n/\yq xs<=yq (c.take n)+n/\∀ k (f:k<d.length) (r:k<xs.length),Fc W d[k] xs[k]/\((k<c.length/\∃ b o,p=some (B3 b o)/\W.cell? ⟨b,o+k,none⟩=some d[k])\/(¬k<c.length/\d[k]=.slice none 0 0)):=by induction n with|zero=>exact⟨[],[],rfl,rfl,by simp[yq],λk f=>by simp at f⟩|succ n ih=>obtain⟨d,xs,q,m,t,s⟩:=ih;by_cases hn:n<c.length;obtain⟨b,o,x,u,a2,a3⟩:=h n hn;refine⟨d++[x],xs++[c[n]],by simp[q],by simp[m],?_,λk f r=>?_⟩;rw[bu,kz hn];simp[yq];omega;by_cases hk:k<n;rw[List.getElem_append_left zC,List.getElem_append_left zC];exact s k zC zC;(have l:k=n:=by simp at f;omega);subst l;(have j:(d++[x])[k]'f=x:=by rw[List.getElem_append_right zC];simp);(have g:(xs++[c[k]])[k]'r=c[k]:=by rw[List.getElem_append_right zC];simp);rw[j,g];exact⟨a3,.inl ⟨hn,b,o,u,a2⟩⟩;refine⟨d++[S7],xs++[[]],by simp[q],by simp[m],?_,λk f r=>?_⟩;rw[bu,zY zC];rw[zY zC] at t;simp[yq,Jw];omega;by_cases hk:k<n;rw[List.getElem_append_left zC,List.getElem_append_left zC];exact s k zC zC;(have l:k=n:=by simp at f;omega);subst l;(have j:(d++[Value.slice none 0 0])[k]'f=.slice none 0 0:=by rw[List.getElem_append_right zC];simp[q]);(have g:(xs++[[]])[k]'r=[]:=by rw[List.getElem_append_right zC];simp[m]);rw[j,g];exact⟨⟨none,0,rfl,λi hi=>by simp at hi⟩,.inr ⟨hn,rfl⟩⟩
def ab(E:Nat->Addr)(B:Nat)(w:World)(d:Nat)(ρ:Nat->jz)(k n:Nat)(wr:World):Prop :=
 ∃ ρ' V k',DW E B wr ρ' d V k'/\xq w ρ wr ρ'/\k'<=k/\V.length<=n
theorem ab.mono{k' b:Nat}{ρ:Nat->jz}(h:ab E B w d ρ k n wr)(j:k<=k')(i:n<=b):ab E B w d ρ k' b wr:=by obtain⟨c,V,f,D,g,m,l⟩:=h;exact⟨c,V,f,D,g,zC,zC⟩
theorem ab.same{ρ:Nat->jz}(h:ab E B w d ρ k n wr)(b:ja wr W No):ab E B w d ρ k n W:=by obtain⟨c,V,f,D,g,j,i⟩:=h;exact⟨c,V,f,D.same b,g.same b,j,i⟩
theorem ab.keeps{ρ:Nat->jz}(h:ab E B w d ρ k n wr):ja w wr (λi=>ρ i≠.none):=by obtain⟨b,V,c,D,g,j,f⟩:=h;exact g.keeps
theorem ab.step{ρ:Nat->jz}(h:ab E B w d ρ k n wr)(t:k<540000000000)(f:ja wr W No)(l:nm.length<1000000000)(m:b.length<1000000000)(j:Reads W (.slice p b.length c) b):Calls prog 17 #[aA d,jc nm,.slice p b.length c] W λe w'=>e=.returned (.tuple #[])/\ab E B w d ρ (k+1+nm.length+b.length) (n+1) w':=by obtain⟨r,V,s,D,g,v,u⟩:=h;refine(jlx (D.same f) zC l m j).mono ?_;rintro e w' ⟨rfl,i,q,o⟩;have:=ud V nm b;exact⟨rfl,i,_,_,q,(g.same f).trans o,zC,zC⟩
theorem jg7{a b:Nat}(h:a+b<=2*n):a*b<=n*n:=by
 rcases Nat.le_total a n with g|g
 .obtain⟨c,rfl⟩:∃ c,n=a+c:=⟨n-a,by omega⟩
  have d:b<=a+2*c:=by omega
  calc a*b<=a*(a+2*c):=Nat.mul_le_mul_left _ d
   _<=(a+c)*(a+c):=by
    rw[Nat.mul_add,Nat.add_mul,Nat.mul_add,Nat.mul_add]
    have:a*(2*c)=a*c+a*c:=by rw[Nat.two_mul,Nat.mul_add]
    have f:c*a=a*c:=Nat.mul_comm _ _
    omega
 .obtain⟨c,rfl⟩:∃ c,a=n+c:=⟨a-n,by omega⟩
  have d:b+c<=n:=by omega
  calc (n+c)*b<=(n+c)*(n-c):=Nat.mul_le_mul_left _ (by omega)
   _<=n*n:=by
    obtain⟨e,rfl⟩:∃ e,n=c+e:=⟨n-c,by omega⟩
    rw[Nat.add_sub_cancel_left]
    have f:e*c=c*e:=Nat.mul_comm _ _
    have k:(c+e)*(c+e)=(c+e)*c+(c+e)*e:=Nat.mul_add _ _ _
    have j:(c+e+c)*e=(c+e)*e+c*e:=Nat.add_mul _ _ _
    have i:(c+e)*c=c*c+e*c:=Nat.add_mul _ _ _
    omega
