/-
  S: RFiles LawA RFind LawB LawC RNum REnts RReadRun RReadLog RReadMan.
-/
import Derived.Deep.RegionHeldLaw
import Derived.Test.YtnipbplghijdmaaGreatDoorS36
import Derived.Test.YtnipbplghijdmaaGreatDoorS33
set_option maxRecDepth 100000
set_option maxHeartbeats 8000000
set_option linter.unusedVariables false
set_option linter.unusedSimpArgs false
namespace Go.Proofs.YtnipbplghijdmaaGreatDoor
open RowKit Maps WideShapes Go.Proofs.Tryz
variable {B K K' d f fin i j k la n sd y:Nat} {W W' w:World} {bv c0 c2 c3 c5 c6 c7 c8 lv rv v xp xv:Value} {V:List (Str×List UInt8)} {b l:List UInt8} {E:Nat->Addr}
def yp(fs:List (Str×List UInt8)):List Value:=fs.flatMap fun f=>[jd f.1,jd f.2]
theorem kz(fs:List (Str×List UInt8))(f:Str×List UInt8):yp (fs++[f])=yp fs++yp [f]:=by simp[yp]
theorem Gl(fs:List (Str×List UInt8)):(yp fs).length=fs.length*2:=by
 induction fs with
 | nil=>rfl
 | cons f r ih =>
  have e:yp (f::r)=jd f.1::jd f.2::yp r:=by simp[yp]
  rw[e,zX,zX,ih,zX];omega
theorem Sw(fs:List (Str×List UInt8)):∀ u∈yp fs,u.oneCell'=true:=by
 intro u b;simp only[yp,List.mem_flatMap,zH,List.not_mem_nil,or_false] at b;obtain⟨f,_,rfl|rfl⟩:=b<;>rfl
def flZ:Value:= .agg #[.string ⟨#[]⟩,.string ⟨#[]⟩]
theorem Tryz.jch:(prog.info? 111).map (fun i=>(i.zero,i.size,i.bytes))=some (some flZ,2,32):=by kernel_rfl
def ma(s:Rf.St)(j:Nat):List (Str×List UInt8):=((s.m.runs.zip s.rls).take j).map fun p=>(jq p.1,Rf.jn p.2)
def Y0(s:Rf.St):List (Str×List UInt8):=[(jw,s.m.bytes),(jx s.m.log,Rf.jl s.m.last s.bs)]
def X6(s:Rf.St):List (Str×List UInt8):=if s.m.base=0 then [] else [(jq s.m.base,Rf.jn s.bl)]
def yj(s:Rf.St):List (Str×List UInt8):=Y0 s++X6 s++ma s s.m.runs.length
theorem Sx(w:World)(f:Str×List UInt8):∀ j u,(yp [f])[j]?=some u->(w.alloc (.cells #[jd f.1,jd f.2] 111)).cell? ((⟨w.heap.size,0,none⟩:Addr).add j)=some u:=fun j u hu=>by
 rw[Ju,zA (je w _)]
 simpa [yp] using hu
theorem Qn(h:n<10000000000):(Rf.j4 n).length<=20:=by
 have:=T9 12 (n:=n) (by omega);omega
theorem C4{s:Rf.St}(h:s.Ok):s.rls.length=s.m.runs.length:=by
 rcases Rf.St.lr h with⟨_,c,_,b⟩|⟨_,_,b⟩
 ·rw[c];exact b
 ·exact b
theorem Ey{s:Rf.St}(c:j<s.m.runs.length)(b:j<s.rls.length):ma s (j+1)=ma s j++[(jq s.m.runs[j],Rf.jn s.rls[j])]:=by
 unfold ma
 have e:(s.m.runs.zip s.rls)[j]?=some (s.m.runs[j],s.rls[j]):=by
  rw[List.getElem?_zip_eq_some];exact⟨zL c,zL b⟩
 rw[zY,e,zZ,ZA];rfl
theorem A0{l:List Rf.Ch}(h:Rf.mo l):(∀ c∈l,Rf.allowed c=true)/\l.length<65536:=⟨h.allowed,h.few⟩
theorem E8{s:Rf.St}{cl:Bool}(R:RAt w y s cl bv lv rv xv) :
 Calls prog 56 #[.pointer (some ⟨y,0,none⟩)] w fun e w'=>∃ v',e = .returned v'/\w'.ownsRow w.heap.size 111 2 v' (yj s).length (yp (yj s))/\ja w w' (fun _=>False):=by
 obtain⟨j1,b3,az,ay,ax⟩:=info_parts Tryz.jch;obtain⟨n1,n2,n3,n4,n5,n6⟩:=R.bounds;have Y:=zA (o:=2) R.row;have B:=zA (o:=3) R.row;have G:=zA (o:=5) R.row;have F:=zA (o:=6) R.row;have E:=zA (o:=7) R.row;simp at Y B G F E;have O:=jb R;have b6:Hid (∀ W,ja w W (fun _=>False)->Calls prog 99 #[.pointer (some ⟨y,0,none⟩)] W fun e w'=>e = .returned (jd s.m.bytes)/\ja W w' (fun _=>False)):=fun W k=>ja5 (O.out.same k);have b7:Hid (∀ W,ja w W (fun _=>False)->Calls prog 91 #[.pointer (some ⟨y,0,none⟩)] W fun e w'=>e = .returned (jd (Rf.jl s.m.last s.bs))/\ja W w' (fun _=>False)):=fun W k=>Nt (O.out.same k);have d:Hid (∀ W,Calls prog 88 #[.int .i64 (s.m.log:Nat)] W fun e w'=>e = .returned (jd (Rf.j4 s.m.log))/\ja W w' (fun _=>False)):=fun W=>J0 s.m.log (by omega) W;have z:=Qn (n:=s.m.log) (by omega);have V:Hid (Y0 s=[(jw,s.m.bytes),([108,111,103,45]++Rf.j4 s.m.log,Rf.jl s.m.last s.bs)]):=(show _=_ from rfl);generalize Rf.j4 s.m.log=DL at d V z;generalize s.m.bytes=MB at b6 V;generalize Rf.jl s.m.last s.bs=LB at b7 V;obtain⟨lo,b2⟩:∃ lo,lo=s.m.log:=⟨_,rfl⟩;rw[<-b2] at Y d;have c1:=yb [108,111,103,45] DL;clear R b2;go_enter func56,ntmps56;go_wp2_with fail
 go_cut [3] from 5 (fun s3 wd=>∃ g,s3 = .slice (some ⟨g,0,none⟩) 2 2/\wd.ownsRow w.heap.size 111 2 (.slice (some ⟨g,0,none⟩) 2 2) 2 (yp (Y0 s))/\ja w wd (fun _=>False))
 case first =>
  go_region_held (fun W=>W.cell? ⟨y,2,none⟩=some (jf lo)/\ja w W (fun _=>False)) (first|exact⟨Y,kq⟩|exact⟨Y,ja.drew _ _⟩|(have q:=‹_/\ja w _ (fun _=>False)›;exact⟨(ja.alloc _ _ (fun _=>False)).cell q.1 id,q.2.more _⟩))
   (first
    | (go_at_call 99;have q:=‹_/\ja w _ (fun _=>False)›;refine(b6.out _ q.2).mono ?_;rintro e w2 ⟨rfl,b⟩;have Y:=b.cell q.1 id;have kq:=q.2.tt b;clear q)
    | (go_at_call 91;have q:=‹_/\ja w _ (fun _=>False)›;refine(b7.out _ q.2).mono ?_;rintro e w2 ⟨rfl,b⟩;have Y:=b.cell q.1 id;have kq:=q.2.tt b;clear q)
    | (go_at_call 88;have q:=‹_/\ja w _ (fun _=>False)›;refine(d.out _).mono ?_;rintro e w2 ⟨rfl,b⟩;have Y:=b.cell q.1 id;have kq:=q.2.tt b;clear q))
  all_goals
   have b9:=World.ownsRow_lit (base:=w.heap.size) (e:=111) (size:=2) w2 #[jd jw,jd MB,jd (108::111::103::45::DL),jd LB] 2 kq.size (by unfold maxLen;omega) rfl;go_wp2;go_meet
  all_goals exact⟨w2.heap.size,rfl,by rw[V.out];exact b9,kq.more _⟩
 case rest =>
  obtain⟨g,rfl,b1,k1⟩:=hcut;have an:=jb b1;obtain⟨D,ah⟩:∃ D,D=s.m.base:=⟨_,rfl⟩;rw[<-ah] at B n4;have X:=jb ah;have a9:=B;have a8:=G;have B:=k1.cell a9 id;have G:=k1.cell a8 id;clear b1 c1 z ah Y
  go_upto_if 22 with fail
  go_cut [3] from 5 (fun s3 wd=>∃ p n c,s3 = .slice p n c/\Hid (n=(Y0 s++X6 s).length)/\n<=3/\wd.ownsRow w.heap.size 111 2 (.slice p n c) n (yp (Y0 s++X6 s))/\ja w wd (fun _=>False))
  case first =>
   rcases ZB D with h0|h0
   ·have bp:¬(0:Int)<(D:Int):=by omega
    have u:Hid (X6 s=[]):=jb (by unfold X6;rw[if_pos (by rw[<-X.out];exact h0)]);clear h0;go_wp2;go_meet
    case rel=>exact⟨_,2,2,rfl,by rw[u.out];exact rfl,by omega,by rw[u.out,ZC];exact an.out,k1⟩
   ·have bp:(0:Int)<(D:Int):=by omega
    have u:Hid (X6 s=[([114,117,110,45]++Rf.j4 D,Rf.jn s.bl)]):=(show _=_ from by unfold X6;rw[if_neg (by rw[<-X.out];omega),<-X.out];rfl);have d:Hid (∀ W,Calls prog 88 #[.int .i64 (D:Nat)] W fun e w'=>e = .returned (jd (Rf.j4 D))/\ja W w' (fun _=>False)):=fun W=>J0 D (by omega) W;have z:=Qn (n:=D) (by omega)
    have M:Rf.mo s.bl:=by
     rcases Rf.St.lr O.out.ok with⟨h,_⟩|⟨_,h,_⟩
     ·rw[<-X.out] at h;omega
     ·exact O.out.ok.bl _ (by rw[h];exact ZD.2 (.inr (ZE.2 rfl)))
    have H:Hid (∀ W,ja wc W (fun _=>False)->Calls prog 100 #[lv] W fun e w'=>e = .returned (jd (Rf.jn s.bl))/\ja W w' (fun _=>False)):=fun W k=>E5 lv s.bl ((O.out.bas.same k1).same k) (by have:=(A0 M).2;omega) (A0 M).1;obtain⟨aa,ab,ak,rfl⟩:∃ p n c,lv = .slice p n c:=by obtain⟨p,c,e⟩:=O.out.bas.shape;exact⟨p,_,c,e⟩
    generalize Rf.j4 D=DB at d u z;generalize Rf.jn s.bl=RB at H u;have c1:=yb [114,117,110,45] DB;have t:ja wc wc.drew (fun _=>False):=ja.drew _ _;have aj:Hid (2+1<=maxLen):=jb (by unfold maxLen;omega);have ag:Hid ((2+1)*32<=140737488355328):=jb (by omega);clear M h0;go_wp2_with fail
    go_region_held_law (fun W=>W.cell? ⟨y,3,none⟩=some (jf D)/\W.cell? ⟨y,5,none⟩=some (.slice aa ab ak)) (first|exact⟨B,G⟩|(have q:=‹_/\_›;exact⟨(ja.alloc _ _ (fun _=>False)).cell B id,(ja.alloc _ _ (fun _=>False)).cell G id⟩))
     (first
      | (go_at_call 88;refine(d.out _).mono ?_;rintro e w2 ⟨rfl,b⟩;have B:=b.cell B id;have G:=b.cell G id;have t:=t.tt b)
      | (go_at_call 100;refine(H.out _ t).mono ?_;rintro e S ⟨rfl,T⟩;have B:=T.cell B id;have G:=T.cell G id;have t:=t.tt T;have am:=jb ((t.row an.out (fun _ _ h=>h)).alloc (.cells #[jd (114::117::110::45::DB),jd RB] 111));have N:=Sx S (114::117::110::45::DB,RB);have v:w.heap.size<=(S.alloc (.cells #[jd (114::117::110::45::DB),jd RB] 111)).heap.size:=ZF k1.size (ZF t.size (ja.alloc S _ (fun _=>False)).size);have L:=Sw [(114::117::110::45::DB,RB)])
      | (refine xu rfl (.tmp 23) (.tmp 36) 89 rfl w.heap.size 111 j1 flZ 2 32 underlying89 b3 az ay ax rfl (ZG 1) (.slice (some ⟨g,0,none⟩) 2 2) 2 (yp (Y0 s)) (by simp[Act.eval,Act.put]) am.out ⟨S.heap.size,0,none⟩ 1 1 (yp [(114::117::110::45::DB,RB)]) (by simp[Act.eval,Act.put]) rfl N L aj.out ag.out v ?_;intro p4 c4 w4 ad af bn;have f:ja w w4 (fun _=>False):=((k1.tt t).more _).grow af (fun i e hi=>by have:=(an.out.lt i e).1;omega);have B:=f.cell a9 id;have G:=f.cell a8 id))
    all_goals
     dsimp;go_wp2;go_meet
    all_goals exact⟨p4,3,c4,rfl,by rw[u.out];exact rfl,by omega,by rw[u.out,kz];exact ad,f⟩
  case rest =>
   obtain⟨p2,n0,c2,rfl,cs,cm,b0,b⟩:=hcut;have br:=jb b0;obtain⟨C,U⟩:∃ C,C=s.m.runs.length:=⟨_,rfl⟩;have I:=O.out.run;have J:=O.out.rls;have hz:=C4 O.out.ok;obtain⟨pr,cr,rfl⟩:∃ p c,rv = .slice p s.m.runs.length c:=by obtain⟨p,c,e,_⟩:=I;exact⟨p,c,e⟩
   obtain⟨px,cx,rfl⟩:=J.shape;have a7:w.cell? ⟨y,6,none⟩=some (.slice pr C cr):=by rw[U];exact F
   have aw:w.cell? ⟨y,7,none⟩=some (.slice px C cx):=by rw[U,<-hz];exact E
   have F:=b.cell a7 id;have cj:C<1000000:=by omega
   have b5:=jb U;have HZ:=jb hz;have a4:=jb I;have a5:=jb J;have bu:Hid (∀ r∈s.m.runs,r<2000000000):=n5;have bt:Hid (∀ l∈s.rls,Rf.mo l):=jb (fun l hl=>O.out.ok.bl l (ZH hl));clear b0 U I J hz n5 n6 B G E a9 a8 n1 n2 n3 n4;go_wp2_with fail
   go_loopw [3,4] (fun t3 t4 wr=>∃(j:Nat),t4 = .int .i64 j/\j<=C/\wr.ownsRow w.heap.size 111 2 t3 (n0+j) (yp (Y0 s++X6 s++ma s j))/\ja w wr (fun _=>False)) (fun _ t4 _=>C-(intOf t4).toNat)
   case atStart=>exact⟨0,rfl,zU _,by unfold ma;simp only[List.take_zero,ZI,ZC];exact br.out,b⟩
   case round =>
    obtain⟨j,rfl,cn,ac,Z⟩:=hrel;have A:=jb ac;obtain⟨pq,cq,rfl⟩:=jj ac;have F:=Z.cell a7 id;have E:=Z.cell aw id;obtain⟨Q,hQ⟩:∃ Q,Q=n0+j:=⟨_,rfl⟩;obtain⟨FZ,ai⟩:∃ FZ,FZ=Y0 s++X6 s++ma s j:=⟨_,rfl⟩;rw[<-hQ] at A ⊢;rw[<-ai] at A;have HQ:=jb hQ;have b8:=jb ai;have cp:Q<=1000010:=by omega
    clear ac hQ ai;rcases ZJ j C with bm|co
    ·have bo:(j:Int)<(C:Int):=by omega
     have ck:IntKind.i64.wrap ((j:Int)+1)=(j:Int)+1:=zE (by omega) (by omega);have h1:j<s.m.runs.length:=by rw[<-b5.out];exact bm
     have h2:j<s.rls.length:=by rw[HZ.out];exact h1
     obtain⟨gr,og,rfl,a0⟩:=(a4.out.same Z).at h1;obtain⟨gx,ox,x,rfl,d0,hx⟩:=(a5.out.same Z).at h2;have b4:w.cell? ⟨gr,og+j,none⟩=some (jf s.m.runs[j]):=by obtain⟨_,_,e,h⟩:=a4.out.at h1;cases e;exact h
     have bq:w.cell? ⟨gx,ox+j,none⟩=some x:=by
      obtain⟨_,_,x',e,h,_⟩:=a5.out.at h2;cases e;have:=Z.cell h id;rw[d0] at this;cases this;exact h
     have al:=jb (Ey h1 h2);have bk:=bu.out _ (zV h1);have ae:=A0 (bt.out _ (zV h2));have d:Hid (∀ W,Calls prog 88 #[.int .i64 (s.m.runs[j]:Nat)] W fun e w'=>e = .returned (jd (Rf.j4 s.m.runs[j]))/\ja W w' (fun _=>False)):=fun W=>J0 _ (by omega) W;have z:=Qn (n:=s.m.runs[j]) (by omega);have H:Hid (∀ W,ja wr W (fun _=>False)->Calls prog 100 #[x] W fun e w'=>e = .returned (jd (Rf.jn s.rls[j]))/\ja W w' (fun _=>False)):=fun W k=>E5 x _ (hx.same k) (by have:=ae.2;omega) ae.1;obtain⟨aa,ab,ak,rfl⟩:∃ p n c,x = .slice p n c:=by obtain⟨p,c,e⟩:=hx.shape;exact⟨p,_,c,e⟩
     have ao:Hid (Y0 s++X6 s++ma s (j+1)=FZ++[([114,117,110,45]++Rf.j4 s.m.runs[j],Rf.jn s.rls[j])]):=(show _=_ from by rw[al.out,b8.out,<-ZK];rfl);generalize Rf.jn s.rls[j]=RB at H ao al;generalize Rf.j4 s.m.runs[j]=DB at d ao z;generalize s.m.runs[j]=r at a0 d bk b4 al;have c1:=yb [114,117,110,45] DB;have t:ja wr wr.drew (fun _=>False):=ja.drew _ _;have aj:Hid (Q+1<=maxLen):=jb (by unfold maxLen;omega);have ag:Hid ((Q+1)*32<=140737488355328):=jb (by omega);clear hx h1 h2 ae;go_wp2_with fail
     go_region_held_law (fun W=>W.cell? ⟨y,6,none⟩=some (.slice (some ⟨gr,og,none⟩) C cr)/\W.cell? ⟨y,7,none⟩=some (.slice (some ⟨gx,ox,none⟩) C cx)/\W.cell? ⟨gr,og+j,none⟩=some (jf r)/\W.cell? ⟨gx,ox+j,none⟩=some (.slice aa ab ak)) (first|exact⟨F,E,a0,d0⟩|(have q:=‹_/\_/\_/\_›;exact⟨(ja.alloc _ _ (fun _=>False)).cell F id,(ja.alloc _ _ (fun _=>False)).cell E id,(ja.alloc _ _ (fun _=>False)).cell a0 id,(ja.alloc _ _ (fun _=>False)).cell d0 id⟩))
      (first
       | (go_at_call 88;refine(d.out _).mono ?_;rintro e w2 ⟨rfl,b⟩;have F:=b.cell F id;have E:=b.cell E id;have a0:=b.cell a0 id;have d0:=b.cell d0 id;have t:=t.tt b)
       | (go_at_call 100;refine(H.out _ t).mono ?_;rintro e S ⟨rfl,T⟩;have F:=T.cell F id;have E:=T.cell E id;have a0:=T.cell a0 id;have d0:=T.cell d0 id;have t:=t.tt T;have am:=jb ((t.row A.out (fun _ _ h=>h)).alloc (.cells #[jd (114::117::110::45::DB),jd RB] 111));have N:=Sx S (114::117::110::45::DB,RB);have v:w.heap.size<=(S.alloc (.cells #[jd (114::117::110::45::DB),jd RB] 111)).heap.size:=ZF Z.size (ZF t.size (ja.alloc S _ (fun _=>False)).size);have L:=Sw [(114::117::110::45::DB,RB)])
       | (refine xu rfl (.tmp 47) (.tmp 66) 89 rfl w.heap.size 111 j1 flZ 2 32 underlying89 b3 az ay ax rfl (ZG 1) (.slice pq Q cq) Q (yp FZ) (by simp[Act.eval,Act.put]) am.out ⟨S.heap.size,0,none⟩ 1 1 (yp [(114::117::110::45::DB,RB)]) (by simp[Act.eval,Act.put]) rfl N L aj.out ag.out v ?_;intro p4 c4 w4 ad af bn;have f:ja w w4 (fun _=>False):=((Z.tt t).more _).grow af (fun i e hi=>by have:=(A.out.lt i e).1;omega);have F:=f.cell a7 id;have E:=f.cell aw id;have a0:=f.cell b4 id;have d0:=f.cell bq id))
     all_goals
      dsimp;go_wp2;exact⟨⟨j+1,by simp,by omega,by rw[ao.out,kz,<-ZL,<-HQ.out];exact ad,f⟩,by simp[intOf];omega⟩
    ·have bo:¬(j:Int)<(C:Int):=by omega
     have a6:Hid (yj s=FZ/\(yj s).length=Q):=jb (by
      have hj:j=s.m.runs.length:=by rw[<-b5.out];omega
      have e:yj s=FZ:=by rw[b8.out,hj];rfl
      refine⟨e,?_⟩
      have h1:=A.out.1
      rw[Gl] at h1
      rw[e]
      omega)
     go_wp2;go_ret;exact⟨_,rfl,by rw[a6.out.2,a6.out.1];exact A.out,Z⟩
def cont(V:List (Str×List UInt8))(n:Str):List UInt8:=((V.find? (fun p=>decide (p.1=n))).map Prod.snd).getD []
theorem Ae(h:V.Pairwise (fun p q=>p.1≠q.1)){n:Str}(c:(n,b)∈V):cont V n=b:=by
 induction V with
 | nil=>cases c
 | cons x r ih =>
  rw[zG] at h;unfold cont;rw[List.find?_cons];rcases zH.1 c with e|c
  ·rw[<-e]
   simp
  ·have d:x.1≠n:=h.1 _ c
   rw[decide_eq_false d];exact ih h.2 c
theorem jgl(h:V.Pairwise (fun p q=>p.1≠q.1)):(V.map Prod.fst).map (fun n=>(n,cont V n))=V:=by
 rw[List.map_map]
 conv=>rhs;rw[<-List.map_id V]
 refine zF (fun p hp=>?_);show(p.1,cont V p.1)=p;rw[Ae h (n:=p.1) (b:=p.2) hp]
theorem Ua{ρ:Nat->jz}{S:jh}(D:Dk E B w ρ d S)(n:View S V)(Z:Small S){nm:Str}(m:(nm,b)∈V)(l:nm.length<1099511627776) :
 Calls prog 46 #[.pointer (some ⟨d,0,none⟩),jd nm] w fun e w'=>∃ p c,e = .returned (.tuple #[.slice p b.length c,.bool true])/\Bytes w' (.slice p b.length c) b/\ja w w' (fun _=>False):=by
 refine(Fp nm D.rep Z l).mono ?_;obtain⟨f,a,i,q,o⟩:=n.get m;rintro e w' ⟨j,⟨h,_⟩|⟨r,a',p,c,h,g,rfl,k⟩⟩
 ·rw[i] at h
  cases h
 ·rw[i] at h
  cases h;rw[q] at g;cases g;subst o;exact⟨p,c,rfl,xj k,j⟩
def Tr(w:World)(V:List (Str×List UInt8))(e:Ending)(w':World):Prop:=∃ v fs,e = .returned v/\w'.ownsRow w.heap.size 111 2 v fs.length (yp fs)/\fs.Perm V/\ja w w' (fun _=>False)
theorem Sa{ρ:Nat->jz}(D:DW E B w ρ d V k)(hk:k<540000000000)(ab:V.length<1000000) :
 Calls prog 47 #[.pointer (some ⟨d,0,none⟩)] w (Tr w V):=by
 obtain⟨j1,a5,a1,Y,X⟩:=info_parts Tryz.jch;obtain⟨S,D,hW,R,W⟩:=D;have Z:=W.small (by omega);have J:=jb (Mt D.rep Z);have HD:=jb D;have HZ:=jb Z;have HV:=jb R;have s:=R.apart;have j:=R.keys;have a4:S.keys.length=V.length:=by rw[j.length_eq,ZM]
 have F:∀ n∈S.keys,n.length<=k:=W.keys
 have o:∀ n∈S.keys,(n,cont V n)∈V:=fun n O=>by
  obtain⟨p,hp,rfl⟩:=ZN.1 (j.subset O);rw[Ae s (n:=p.1) (b:=p.2) hp];exact hp
 have f:(S.keys.map (fun n=>(n,cont V n))).Perm V:=by
  have:=j.map (fun n=>(n,cont V n));rwa [jgl s] at this
 have ai:=jb o;have aj:=jb F;have ag:=jb f;obtain⟨n,O⟩:∃ n,n=S.keys.length:=⟨_,rfl⟩;have b3:n<1000000:=by omega
 have T:=jb O;have HK:Hid (k<540000000000):=hk;clear D hW R W Z s j a4 F o f O ab hk;go_enter func47,ntmps47;go_wp2_with fail;refine J.out.mono ?_;rintro e x ⟨U,p1,c1,rfl,A⟩;have af:=jb A;rw[<-T.out];clear A;go_wp2_with fail
 go_loopw [3,5,6,7] (fun t3 t5 _ _ wr=>∃ i:Nat,t5 = .int .i64 i/\i<=n/\wr.ownsRow x.heap.size 111 2 t3 i (yp ((S.keys.take i).map (fun n=>(n,cont V n))))/\ja x wr (fun _=>False)) (fun _ t5 _ _ _=>n-(intOf t5).toNat)
 case atStart=>exact⟨0,rfl,zU _,by simp only[List.take_zero,ZI];exact zS _ _ _ _,ja.refl _ _⟩
 case round =>
  obtain⟨i,rfl,b5,q,y⟩:=hrel;have t:=jb q;obtain⟨pq,cq,rfl⟩:=jj q;clear q;rcases ZJ i n with a3|a7
  ·have a6:(i:Int)<(n:Int):=by omega
   have b2:IntKind.i64.wrap ((i:Int)+1)=(i:Int)+1:=zE (by omega) (by omega);have c:i<S.keys.length:=by rw[<-T.out];exact a3
   obtain⟨g,rfl,a0⟩:=jdl (y.row af.out (fun _ _ h=>h)) c;have m:=aj.out _ (zV c);have u:=jb (Ua ((HD.out.same U).same y) HV.out HZ.out (ai.out _ (zV c)) (by have:=HK.out;omega));have l:Hid ((S.keys.take (i+1)).map (fun n=>(n,cont V n))=(S.keys.take i).map (fun n=>(n,cont V n))++[(S.keys[i],cont V S.keys[i])]):=(show _=_ from by rw[zY,zL c,zZ,ZA];rfl);generalize cont V S.keys[i]=b at u l;generalize S.keys[i]=nm at a0 u l m;obtain⟨L,hL⟩:∃ L,L=(S.keys.take i).map (fun n=>(n,cont V n)):=⟨_,rfl⟩;rw[<-hL] at l t;have ac:Hid (i+1<=maxLen):=jb (by unfold maxLen;omega);have aa:Hid ((i+1)*32<=140737488355328):=jb (by omega);clear c m hL;go_wp2_with fail;refine u.out.mono ?_;rintro e v ⟨p3,c3,rfl,G,N⟩;have M:ja v v.drew (fun _=>False):=ja.drew _ _;have a9:=(G.same M).string;have b6:=N.cell a0 id;have r:=M.row (N.row t.out (fun _ _ h=>h)) (fun _ _ h=>h);have ae:=jb r;have ah:=jb (r.alloc (.cells #[jd nm,jd b] 111));have H:=Sw [(nm,b)];have I:=Sx v.drew (nm,b);have a2:x.heap.size<=(v.drew.alloc (.cells #[jd nm,jd b] 111)).heap.size:=ZF (ZF y.size (ZF N.size M.size)) (ja.alloc v.drew _ (fun _=>False)).size;obtain⟨nb,C⟩:∃ nb,nb=b.length:=⟨_,rfl⟩;rw[<-C] at a9 ⊢;clear G r C;go_wp2_with fail
   go_region_law (first
    | (refine xu rfl (.tmp 25) (.tmp 33) 89 rfl x.heap.size 111 j1 flZ 2 32 underlying89 a5 a1 Y X rfl (ZG 1) (.slice pq i cq) i (yp L) (by simp[Act.eval,Act.put]) ah.out ⟨v.drew.heap.size,0,none⟩ 1 1 (yp [(nm,b)]) (by simp[Act.eval,Act.put]) rfl I H ac.out aa.out a2 ?_
       intro p7 c7 w7 z a8 b4))
   all_goals
    have k7:ja x w7 (fun _=>False):=((y.tt (N.trans M (fun _ _ h=>h))).more _).grow a8 (fun i e hi=>by have:=(ae.out.lt i e).1;omega);rw[<-kz,<-l.out] at z;go_wp2;exact⟨⟨i+1,by simp,by omega,z,k7⟩,by simp[intOf];omega⟩
  ·have a6:¬(i:Int)<(n:Int):=by omega
   have ad:Hid (S.keys.take i=S.keys):=jb (ZO (by rw[<-T.out];exact a7));have ak:Hid (i=(S.keys.map (fun n=>(n,cont V n))).length):=(show i=_ from by rw[ZM,<-T.out];omega);go_wp2;go_ret;refine⟨_,S.keys.map (fun n=>(n,cont V n)),rfl,?_,ag.out,U.tt y⟩;have:=t.out;rw[ad.out] at this;rw[<-ak.out];exact qg this U.size
def Fls(w:World)(v:Value)(fs:List (Str×List UInt8)):Prop:=∃ base,w.ownsRow base 111 2 v fs.length (yp fs)
theorem Fls.same{b:World}{fs:List (Str×List UInt8)}(h:Fls w v fs)(k:ja w b (fun _=>False)):Fls b v fs:=by
 obtain⟨base,h⟩:=h;exact⟨base,k.row h (fun _ _ h=>h)⟩
theorem Sy{fs:List (Str×List UInt8)}(h:k<fs.length):(yp fs)[k*2]?=some (jd fs[k].1)/\(yp fs)[k*2+1]?=some (jd fs[k].2):=by
 induction fs generalizing k with
 | nil=>simp at h
 | cons x r ih =>
  cases k with
  | zero=>simp[yp]
  | succ k =>
   have:=ih (k:=k) (by simpa using h);have e:yp (x::r)=jd x.1::jd x.2::yp r:=by simp[yp]
   rw[e,show(k+1)*2=k*2+1+1 by omega];simpa using this
theorem Fls.at{fs:List (Str×List UInt8)}(h:Fls w v fs)(j:k<fs.length):∃ g c,v = .slice (some ⟨g,0,none⟩) fs.length c/\w.cell? ⟨g,k*2,none⟩=some (jd fs[k].1)/\w.cell? ⟨g,k*2+1,none⟩=some (jd fs[k].2):=by
 obtain⟨base,h⟩:=h;have d:=Sy j;rcases h.2 with⟨_,o⟩|⟨g,cap,f,e,_,b,n,m,l,i⟩
 ·omega
 ·refine⟨g,cap,e,?_,?_⟩
  ·rw[zA b]
   have:(f.toList.take (fs.length*2))[k*2]?=some (jd fs[k].1):=by rw[i];exact d.1
   rw[zK] at this
   split at this
   ·simpa using this
   ·cases this
  ·rw[zA b]
   have:(f.toList.take (fs.length*2))[k*2+1]?=some (jd fs[k].2):=by rw[i];exact d.2
   rw[zK] at this
   split at this
   ·simpa using this
   ·cases this
def findF(nm:Str):List (Str×List UInt8)->Nat->Int
 | [],_=> -1
 | f::r,i=>if f.1=nm then(i:Int)else findF nm r (i+1)
def gy(fs:List (Str×List UInt8))(nm:Str):Int:=findF nm fs 0
theorem Pd(fs:List (Str×List UInt8))(nm:Str):(gy fs nm = -1/\∀ f∈fs,f.1≠nm)\/∃(i:Nat) (h:i<fs.length),gy fs nm=(i:Int)/\fs[i].1=nm:=by
 have H:∀(l:List (Str×List UInt8)) (k:Nat),(findF nm l k = -1/\∀ f∈l,f.1≠nm)\/∃(i:Nat) (h:i<l.length),findF nm l k=((k+i:Nat):Int)/\l[i].1=nm:=by
  intro l
  induction l with
  | nil=>intro k;exact .inl ⟨rfl,fun f hf=>by cases hf⟩
  | cons f r ih =>
   intro k;by_cases hf:f.1=nm
   ·exact .inr ⟨0,by simp,by simp[findF,hf],by simpa using hf⟩
   ·rcases ih (k+1)with⟨c,b⟩|⟨i,hi,c,b⟩
    ·refine .inl ⟨by simp[findF,hf,c],fun g d=>?_⟩
     rcases zH.1 d with rfl|d
     ·exact hf
     ·exact b g d
    ·exact .inr ⟨i+1,by simpa using hi,by simp only[findF,if_neg hf];rw[c];congr 1;omega,by simpa using b⟩
 rcases H fs 0 with h|⟨i,hi,c,b⟩
 ·exact .inl h
 ·exact .inr ⟨i,hi,by unfold gy;rw[c];simp,b⟩
theorem Kf(v:Value)(fs:List (Str×List UInt8))(l:Fls w v fs)(B:fs.length<10000000)(nm:Str) :
 Calls prog 86 #[v,jd nm] w fun e w'=>e = .returned (.int .i64 (gy fs nm))/\ja w w' (fun _=>False):=by
 obtain⟨G,c0,rfl⟩:∃ p c,v = .slice p fs.length c:=by obtain⟨_,h⟩:=l;obtain⟨p,c,e⟩:=jj h;exact⟨p,c,e⟩
 have z:=jb l;obtain⟨n,m⟩:∃ n,n=fs.length:=⟨_,rfl⟩;rw[<-m] at B z ⊢;have A:=jb m;clear l m;go_enter func86,ntmps86;go_wp2_with fail
 go_loopw [4,5] (fun _ t5 wr=>∃ j:Nat,t5 = .int .i64 j/\j<=n/\Hid (gy fs nm=findF nm (fs.drop j) j)/\ja w wr (fun _=>False)) (fun _ t5 _=>n-(intOf t5).toNat)
 case atStart=>exact⟨0,rfl,zU _,(show gy fs nm=findF nm (fs.drop 0) 0 from rfl),ja.refl _ _⟩
 case round =>
  obtain⟨j,rfl,E,o,i⟩:=hrel;rcases ZJ j n with q|s
  ·have r:(j:Int)<(n:Int):=by omega
   have D:IntKind.i64.wrap ((j:Int)+1)=(j:Int)+1:=zE (by omega) (by omega);have d:j<fs.length:=by rw[<-A.out];exact q
   obtain⟨g,H,C,y,u⟩:=(z.out.same i).at d;injection C with eg1 eg2 eg3;subst eg1;clear eg2 eg3;have b:Hid (findF nm (fs.drop j) j=if fs[j].1=nm then(j:Int)else findF nm (fs.drop (j+1)) (j+1)):=(show _=_ from by rw[ZP d];rfl);generalize fs[j]=x at y u b;obtain⟨k,F⟩:=x;simp only at y u b;clear d;by_cases he:k=nm
   ·have t:(k==nm)=true:=by simp[he]
    have f:Hid (gy fs nm=(j:Int)):=jb (by rw[o.out,b.out,if_pos he]);clear he;go_wp2;go_ret;exact⟨by rw[f.out];rfl,i⟩
   ·have t:(k==nm)=false:=by simpa using he
    have f:Hid (gy fs nm=findF nm (fs.drop (j+1)) (j+1)):=(show _=_ from by rw[o.out,b.out,if_neg he]);clear he;go_wp2;exact⟨⟨j+1,by simp,by omega,f,i⟩,by simp[intOf];omega⟩
  ·have r:¬(j:Int)<(n:Int):=by omega
   have f:Hid (gy fs nm = -1):=jb (by rw[o.out,ZQ (by rw[<-A.out];exact s)];rfl);go_wp2;go_ret;exact⟨by rw[f.out];rfl,i⟩
theorem Vg{s:Rf.St}(h:s.Ok):ma s s.m.runs.length=j9 s.m.runs s.rls:=by
 unfold ma j9;rw[ZO (by rw[List.length_zip,C4 h];omega)]
theorem Xg{s:Rf.St}(h:s.Ok):(yj s).Perm s.files:=by
 have j:yj s=Y0 s++(X6 s++j9 s.m.runs s.rls):=by unfold yj;rw[Vg h,ZK]
 have i:s.files=Y0 s++j9 s.m.settled s.bls:=rfl;rw[j,i];refine List.Perm.append_left _ ?_;rcases Rf.St.lr h with⟨b,c,f,k⟩|⟨b,c,f⟩
 ·have d:s.m.settled=s.m.runs:=by unfold Rf.Man.settled;rw[if_pos b]
  unfold X6;rw[if_pos b,c,d];exact List.Perm.refl _
 ·have d:s.m.settled=s.m.runs++[s.m.base]:=by unfold Rf.Man.settled;rw[if_neg b]
  unfold X6;rw[if_neg b,d]
  have g:j9 (s.m.runs++[s.m.base]) s.bls=j9 s.m.runs s.rls++[(jq s.m.base,Rf.jn s.bl)]:=by
   conv=>lhs;rw[c]
   unfold j9;rw[List.zip_append f.symm,ZA];rfl
  rw[g];exact List.perm_append_comm
theorem ff{ρ:Nat->jz}{s:Rf.St}{cl:Bool}(u:w.heap[sd]?=some (.cells #[.pointer (some ⟨d,0,none⟩),xp,.pointer (some ⟨y,0,none⟩)] 96 (0,0)))(R:RAt w y s cl bv lv rv xv)(D:DW E B w ρ d s.files k)(hk:k<540000000000) :
 Calls prog 51 #[.pointer (some ⟨sd,0,none⟩)] w fun e w'=>e = .returned (.bool true)/\ja w w' (fun _=>False):=by
 have N:=jb (E8 R);have f:=Xg R.ok
 have L:(yj s).length<1000010:=by
  have h1:=R.few;have h2:=R.ok.len;rw[f.length_eq]
  have:s.files.length<=s.bls.length+2:=by
   show(_::_::j9 s.m.settled s.bls).length<=_;unfold j9;simp only[zX,ZM,List.length_zip];omega
  omega
 obtain⟨S,D,hW,hV,hF⟩:=D;have Z:=hF.small (by omega);have z:=hV.keys;have j:S.keys.length=(yj s).length:=by rw[z.length_eq,ZM,f.length_eq]
 have J:∀ n∈S.keys,n.length<=k:=hF.keys
 have r:∀ p∈yj s,p∈s.files/\p.1.length<=k:=fun p hp=>by
  have h1:=f.subset hp;exact⟨h1,J _ (z.symm.subset (ZN.2 ⟨p,h1,rfl⟩))⟩
 have q0:=zA (o:=0) u;have q2:=zA (o:=2) u;simp at q0 q2;have HD:=jb D;have HV:=jb hV;have HZ:=jb Z;have M:=jb r;have HK:Hid (k<540000000000):=hk;generalize yj s=fs at N L j M;obtain⟨n,Y⟩:∃ n,n=fs.length:=⟨_,rfl⟩;rw[<-Y] at L j;have HN:=jb Y;have ad:=jb j;clear u R f D hW hV hF Z z j J r hk Y;go_enter func51,ntmps51;go_wp2_with fail;refine N.out.mono ?_;rintro e w1 ⟨v1,rfl,v,V⟩;obtain⟨p1,c1,rfl⟩:=jj v;have ac:Hid (Fls w1 (.slice p1 n c1) fs):=jb (⟨_,by rw[HN.out];exact v⟩);rw[<-HN.out];have O:=jb (Mt (HD.out.same V).rep HZ.out);have a8:=V.cell q0 id;clear v;go_wp2_with fail;refine O.out.mono ?_;rintro e w2 ⟨X,p2,c2,rfl,a9⟩;rw[ad.out];clear a9;go_wp2_with fail
 go_loopw [2,5,6,7] (fun _ t5 _ _ wr=>∃ i:Nat,t5 = .int .i64 i/\i<=n/\ja w2 wr (fun _=>False)) (fun _ t5 _ _ _=>n-(intOf t5).toNat)
 case atStart=>exact⟨0,rfl,zU _,ja.refl _ _⟩
 case round =>
  obtain⟨i,rfl,ax,U⟩:=hrel;rcases ZJ i n with aa|ay
  ·have ab:(i:Int)<(n:Int):=by omega
   have aw:IntKind.i64.wrap ((i:Int)+1)=(i:Int)+1:=zE (by omega) (by omega);have A:i<fs.length:=by rw[<-HN.out];exact aa
   have H:=X.tt U;obtain⟨g,cg,eg,G,a1⟩:=(ac.out.same H).at A;injection eg with eg1 eg2 eg3;subst eg1;clear eg2 eg3;have hm:=M.out _ (zV A);have q:Hid (∀ W,ja wr W (fun _=>False)->Calls prog 46 #[.pointer (some ⟨d,0,none⟩),jd fs[i].1] W fun e w'=>∃ p c,e = .returned (.tuple #[.slice p fs[i].2.length c,.bool true])/\Bytes w' (.slice p fs[i].2.length c) fs[i].2/\ja W w' (fun _=>False)):=fun W kW=>Ua ((((HD.out.same V).same X).same U).same kW) HV.out HZ.out hm.1 (by have:=HK.out;have:=hm.2;omega);generalize fs[i]=x at G a1 q;obtain⟨nm,b⟩:=x;simp only at G a1 q;have t:=H.cell a8 id;obtain⟨T,I⟩:∃ T,T=b.length:=⟨_,rfl⟩;rw[<-I] at q;clear hm A I;go_wp2_with fail
   go_cut [6,7] from 23 to 53 (fun s6 s7 wd=>∃ p c,s6 = .slice p T c/\s7 = .bool true/\Bytes wd (.slice p T c) b/\ja wr wd (fun _=>False))
   case first =>
    go_region_held (fun W=>W.cell? ⟨sd,0,none⟩=some (.pointer (some ⟨d,0,none⟩))/\W.cell? ⟨g,i*2,none⟩=some (jd nm)/\ja wr W (fun _=>False)) (first|exact⟨t,G,kq⟩|exact⟨t,G,ja.drew _ _⟩)
     (first|(go_at_call 46;have F:=‹_/\_/\ja wr _ (fun _=>False)›;refine(q.out _ F.2.2).mono ?_;rintro e w3 ⟨p3,c3,rfl,l,C⟩;have t:=C.cell F.1 id;have G:=C.cell F.2.1 id;have kq:=F.2.2.tt C;clear F))
    all_goals
     go_wp2;go_meet
    all_goals exact⟨p3,c3,rfl,rfl,l,kq⟩
   case rest =>
    obtain⟨p3,c3,rfl,rfl,l,C⟩:=hcut;have kd:ja wc wc.drew (fun _=>False):=ja.drew _ _;have az:=(l.same kd).string;have b0:=C.cell a1 id;clear l;go_wp2_with fail
    go_region
    all_goals
     go_wp2;exact⟨⟨i+1,by simp,by omega,(U.tt C).tt kd⟩,by simp[intOf];omega⟩
  ·have ab:¬(i:Int)<(n:Int):=by omega
   go_wp2;go_ret;exact⟨rfl,(V.tt X).tt U⟩
theorem rh(n:Int)(w:World):Calls prog 49 #[.int .i64 n] w fun e w'=>e = .returned (.int .i64 n)/\w'=w:=by
 go_enter func49,ntmps49;go_wp2;go_ret;exact⟨rfl,rfl⟩
theorem P7(fs:List (Str×List UInt8))(i:Nat):j3 (fs.take i)<=j3 fs:=by
 have h:fs=fs.take i++fs.drop i:=(ZR i fs).symm
 have:j3 fs=j3 (fs.take i)+j3 (fs.drop i):=by
  conv=>lhs;rw[h]
  unfold j3;rw[ZA,List.sum_append]
 omega
theorem P8(fs:List (Str×List UInt8))(f:Str×List UInt8):j3 (fs++[f])=j3 fs+f.2.length:=by
 unfold j3;rw[ZA,List.sum_append];simp
theorem jaq{s:Rf.St}{cl:Bool}{S:Value}(l:w.heap[sd]?=some (.cells #[S,xp,.pointer (some ⟨y,0,none⟩)] 96 (0,0)))(R:RAt w y s cl bv lv rv xv)(r:j3 s.files<1000000000) :
 Calls prog 52 #[.pointer (some ⟨sd,0,none⟩)] w fun e w'=>e = .returned (.int .i64 (2*j3 s.files:Nat))/\ja w w' (fun _=>False):=by
 have q:=jb (E8 R);have c:=Xg R.ok;have k:=Dc c
 have p:(yj s).length<1000010:=by
  have j:=R.few;rw[c.length_eq]
  have:s.files.length<=s.bls.length+2:=by
   show(_::_::j9 s.m.settled s.bls).length<=_;unfold j9;simp only[zX,ZM,List.length_zip];omega
  omega
 rw[<-k] at r ⊢;have I:=zA (o:=2) l;simp at I;generalize yj s=fs at q p r;obtain⟨n,v⟩:∃ n,n=fs.length:=⟨_,rfl⟩;rw[<-v] at p;have t:=jb v;have V:=jb r;clear l R c k v r;go_enter func52,ntmps52;go_wp2_with fail;refine q.out.mono ?_;rintro e F ⟨v1,rfl,d,L⟩;obtain⟨J,U,rfl⟩:=jj d;have D:Hid (Fls F (.slice J n U) fs):=jb (⟨_,by rw[t.out];exact d⟩);rw[<-t.out];clear d;go_wp2_with fail
 go_loopw [3,5] (fun t3 t5 wr=>∃ i T:Nat,t5 = .int .i64 i/\i<=n/\t3 = .int .i64 T/\Hid (T=2*j3 (fs.take i))/\ja F wr (fun _=>False)) (fun _ t5 _=>n-(intOf t5).toNat)
 case atStart=>exact⟨0,0,rfl,zU _,rfl,(show 0=2*j3 (fs.take 0)from rfl),ja.refl _ _⟩
 case round =>
  obtain⟨i,T,rfl,a2,rfl,z,u⟩:=hrel;rcases ZJ i n with A|C
  ·have B:(i:Int)<(n:Int):=by omega
   have X:IntKind.i64.wrap ((i:Int)+1)=(i:Int)+1:=zE (by omega) (by omega);have f:i<fs.length:=by rw[<-t.out];exact A
   obtain⟨g,cg,O,H,G⟩:=(D.out.same u).at f;injection O with eg1 eg2 eg3;subst eg1;clear eg2 eg3;have j:=P7 fs (i+1);have HS:Hid (j3 (fs.take (i+1))=j3 (fs.take i)+fs[i].2.length):=(show _=_ from by rw[zY,zL f,zZ,P8]);rw[HS.out] at j;have N:=z.out;have M:=V.out;generalize fs[i]=x at H G HS j;obtain⟨nm,b⟩:=x;simp only at H G HS j;have Z:IntKind.i64.wrap (2*(b.length:Int))=2*(b.length:Int):=zE (by omega) (by omega);have Y:IntKind.i64.wrap ((T:Int)+2*(b.length:Int))=(T:Int)+2*(b.length:Int):=zE (by omega) (by omega);have E:Hid (T+2*b.length=2*j3 (fs.take (i+1))):=(show _=_ from by rw[HS.out,z.out];omega);clear j N M f;go_wp2;exact⟨⟨i+1,T+2*b.length,by simp,by omega,by simp,E,u⟩,by simp[intOf];omega⟩
  ·have B:¬(i:Int)<(n:Int):=by omega
   have W:Hid (2*j3 fs=T):=jb (by rw[z.out,ZO (by rw[<-t.out];exact C)]);go_wp2;go_ret;have e:(2*(j3 fs:Int))=(T:Int):=by have:=W.out;omega
   exact⟨by rw[e];rfl,L.tt u⟩
def om:List UInt8->Nat->Option Nat
 | [],v=>some v
 | b::r,v=>if 4294967295<v*256+b.toNat then none else om r (v*256+b.toNat)
def qo(l:List UInt8)(at' many:Nat):Int:=if l.length<at'+many then -1 else match om ((l.drop at').take many) 0 with|some v=>(v:Int)|none=> -1
theorem wrap_small{z:Int}(c:0<=z)(b:z<2000000000000):wrap64 z=z:=by
 unfold wrap64;omega
theorem jes(l:List UInt8)(k:Nat)(h:k<l.length)(b:k<(⟨l.toArray⟩:ByteArray).size):(⟨l.toArray⟩:ByteArray)[k]'b=l[k]:=by simp[ByteArray.getElem_eq_getElem_data]
theorem jdo(h:k<l.length):k<(⟨l.toArray⟩:ByteArray).size:=by simpa [ByteArray.size] using h
theorem jd4(l:List UInt8)(v k:Nat)(h:k<l.length)(c:v<=4294967295):wrap64 ((v:Int)*256+wrap64 (((⟨l.toArray⟩:ByteArray)[k]'(jdo h)).toNat:Int))=((v*256+l[k].toNat:Nat):Int):=by
 rw[jes l k h];have b:=l[k].toNat_lt;rw[wrap_small (z:=(l[k].toNat:Int)) (by omega) (by omega),wrap_small (by omega) (by omega)];omega
theorem zb(l:List UInt8)(c b:Nat)(s:l.length<1000000000)(u:c<1000000000)(Y:b<=8)(w:World) :
 Calls prog 133 #[jd l,.int .i64 c,.int .i64 b] w fun e w'=>e = .returned (.int .i64 (qo l c b))/\w'=w:=by
 have U:IntKind.i64.wrap ((c:Int)+(b:Int))=(c:Int)+(b:Int):=zE (by omega) (by omega);rcases ZJ l.length (c+b)with m|m
 ·have x:Hid (qo l c b = -1):=jb (by unfold qo;rw[if_pos m])
  have J:(l.length:Int)<(c:Int)+(b:Int):=by omega
  have M:Hid (l.length<1000000000):=s;have A:Hid (c<1000000000):=u;clear m s u;go_enter func133,ntmps133;go_wp2;go_ret;exact⟨by rw[x.out];rfl,rfl⟩
 ·have J:¬(l.length:Int)<(c:Int)+(b:Int):=by omega
  obtain⟨bs,d⟩:∃ bs,bs=(l.drop c).take b:=⟨_,rfl⟩;have p:bs.length=b:=by rw[d,ZT,ZU];omega
  have x:Hid (qo l c b=match om bs 0 with|some v=>(v:Int)|none=> -1):=(show _=_ from by unfold qo;rw[if_neg (by omega),d]);have F:=jb d;have r:=jb p;have M:Hid (l.length<1000000000):=s;have A:Hid (c<1000000000):=u;have O:=jb m;clear d p m s u;go_enter func133,ntmps133;go_wp2_with fail
  go_loopw [6,7,8] (fun _ t7 t8 wr=>∃ i v:Nat,t8 = .int .i64 i/\i<=b/\t7 = .int .i64 v/\(v:Int)<=4294967295/\Hid (om bs 0=om (bs.drop i) v)/\wr=w) (fun _ _ t8 _=>b-(intOf t8).toNat)
  case atStart=>exact⟨0,0,rfl,zU _,rfl,by omega,(show om bs 0=om (bs.drop 0) 0 from rfl),rfl⟩
  case round =>
   obtain⟨i,v,rfl,V,rfl,X,z,rfl⟩:=hrel;rcases ZJ i b with n|D
   ·have C:(i:Int)<(b:Int):=by omega
    have S:IntKind.i64.wrap ((i:Int)+1)=(i:Int)+1:=zE (by omega) (by omega);have g:i<bs.length:=by rw[r.out];exact n
    have q:c+i<l.length:=by have:=O.out;omega
    have G:bs[i]=l[c+i]:=by
     have H:bs[i]?=l[c+i]?:=by rw[F.out,List.getElem?_take_of_lt n,ZV]
     rw[zL g,zL q] at H;exact Option.some.inj H
    have j:Hid (om (bs.drop i) v=if 4294967295<v*256+bs[i].toNat then none else om (bs.drop (i+1)) (v*256+bs[i].toNat)):=(show _=_ from by
     rw[ZP g]
     rfl)
    have B:=bs[i].toNat_lt;have T:IntKind.i64.wrap ((c:Int)+(i:Int))=(c:Int)+(i:Int):=zE (by have:=A.out;omega) (by have:=A.out;omega);have R:IntKind.i64.wrap ((v:Int)*256)=(v:Int)*256:=zE (by omega) (by omega);have I:(c:Int)+(i:Int)<(l.length:Int):=by omega
    obtain⟨N,y⟩:∃ N,N=v*256+bs[i].toNat:=⟨_,rfl⟩;have f:=jd4 l v (c+i) q (by omega);rw[<-G,<-y] at f;have W:(0:Int)<=(c:Int)+(i:Int):=by omega
    rw[<-y] at j;have L:=jb f;clear B G g y;rcases ZJ 4294967295 N with t|t
    ·have o:(4294967295:Int)<(N:Int):=by omega
     have k:Hid (qo l c b = -1):=jb (by rw[x.out,z.out,j.out,if_pos t]);clear t;go_wp2;go_ret;exact⟨by rw[k.out];rfl,rfl⟩
    ·have o:(N:Int)<=4294967295:=by omega
     have E:Hid (om bs 0=om (bs.drop (i+1)) N):=(show _=_ from by rw[z.out,j.out,if_neg (by omega)]);clear t;go_wp2;exact⟨⟨i+1,N,by simp,by omega,by rw[L.out],o,E.out,trivial⟩,by simp[intOf];omega⟩
   ·have C:¬(i:Int)<(b:Int):=by omega
    have k:Hid (qo l c b=(v:Int)):=jb (by
     rw[x.out,z.out,ZQ (by rw[r.out];exact D)]
     rfl)
    go_wp2;go_ret;exact⟨by rw[k.out];rfl,rfl⟩
def qt(l:List UInt8)(k:Nat):List UInt8×Int :=
 if qo l k 4<0\/qo l (k+4) 4<0\/l.length<k+8+(qo l k 4).toNat then([],-1)
 else if (Rf.sum ((l.drop (k+8)).take (qo l k 4).toNat):Int)≠qo l (k+4) 4 then([],-1)
 else((l.drop (k+8)).take (qo l k 4).toNat,(k:Int)+8+qo l k 4)
theorem jd5(bs:List UInt8)(v:Nat)(h:v<=4294967295):∀ n,om bs v=some n->n<=4294967295:=by
 induction bs generalizing v with
 | nil=>intro n e;cases e;exact h
 | cons b r ih =>
  intro n e;unfold om at e
  split at e
  ·cases e
  ·exact ih _ (by omega) n e
theorem kj(l:List UInt8)(k m:Nat):qo l k m = -1\/∃ n:Nat,qo l k m=(n:Int)/\n<=4294967295:=by
 unfold qo
 split
 ·exact .inl rfl
 ·cases h:om ((l.drop k).take m) 0 with
  | none=>exact .inl rfl
  | some n=>exact .inr ⟨n,rfl,jd5 _ 0 (by omega) n h⟩
theorem T6(l:List UInt8)(a b:Nat):(⟨l.toArray⟩:ByteArray).extract a b=⟨((l.drop a).take (b-a)).toArray⟩:=by
 ext1;simp[ByteArray.data_extract]
theorem ke(l:List UInt8)(k:Nat)(D:l.length<500000000)(E:k<=l.length)(w:World) :
 Calls prog 132 #[jd l,.int .i64 k] w fun e w'=>e = .returned (.tuple #[jd (qt l k).1,.int .i64 (qt l k).2])/\w'=w:=by
 have i:=jb (zb l k 4 (by omega) (by omega) (by omega) w)
 have g:Hid (Calls prog 133 #[jd l,.int .i64 ((k:Int)+4),.int .i64 4] w fun e w'=>e = .returned (.int .i64 (qo l (k+4) 4))/\w'=w):=by
  have:=zb l (k+4) 4 (by omega) (by omega) (by omega) w;rw[Int.natCast_add] at this;exact this
 have J:IntKind.i64.wrap ((k:Int)+4)=(k:Int)+4:=zE (by omega) (by omega);have I:IntKind.i64.wrap ((k:Int)+8)=(k:Int)+8:=zE (by omega) (by omega);have t:Hid (qt l k=if qo l k 4<0\/qo l (k+4) 4<0\/l.length<k+8+(qo l k 4).toNat then([],-1)else if (Rf.sum ((l.drop (k+8)).take (qo l k 4).toNat):Int)≠qo l (k+4) 4 then([],-1)else((l.drop (k+8)).take (qo l k 4).toNat,(k:Int)+8+qo l k 4)):=(show _=_ from rfl);have z:=kj l k 4;have j:=kj l (k+4) 4;generalize qo l k 4=A at *
 generalize qo l (k+4) 4=C at *
 generalize qt l k=FR at *
 have x:Hid (l.length<500000000):=D;have F:=jb E;clear D E;rcases z with rfl|⟨n,rfl,u⟩
 ·have f:Hid (FR=([],-1)):=jb (by rw[t.out,if_pos (.inl (by omega))])
  clear j;go_enter func132,ntmps132;go_wp2_with fail;refine i.out.mono ?_;rintro e d ⟨rfl,c⟩;subst c;go_wp2_with fail;refine g.out.mono ?_;rintro e d ⟨rfl,c⟩;subst c;go_wp2;go_ret2;exact⟨by rw[f.out];rfl,rfl⟩
 ·have L:¬(n:Int)<0:=by omega
  rcases j with rfl|⟨m,rfl,B⟩
  ·have f:Hid (FR=([],-1)):=jb (by rw[t.out,if_pos (.inr (.inl (by omega)))])
   clear u;go_enter func132,ntmps132;go_wp2_with fail;refine i.out.mono ?_;rintro e d ⟨rfl,c⟩;subst c;go_wp2_with fail;refine g.out.mono ?_;rintro e d ⟨rfl,c⟩;subst c;go_wp2;go_ret2;exact⟨by rw[f.out];rfl,rfl⟩
  ·have M:¬(m:Int)<0:=by omega
   have H:IntKind.i64.wrap ((k:Int)+8+(n:Int))=(k:Int)+8+(n:Int):=zE (by have:=F.out;have:=x.out;omega) (by have:=F.out;have:=x.out;omega);rcases ZJ l.length (k+8+n)with v|v
   ·have f:Hid (FR=([],-1)):=jb (by rw[t.out,if_pos (.inr (.inr (by simpa using v)))])
    have G:(l.length:Int)<(k:Int)+8+(n:Int):=by omega
    clear u B v;go_enter func132,ntmps132;go_wp2_with fail;refine i.out.mono ?_;rintro e d ⟨rfl,c⟩;subst c;go_wp2_with fail;refine g.out.mono ?_;rintro e d ⟨rfl,c⟩;subst c;go_wp2;go_ret2;exact⟨by rw[f.out];rfl,rfl⟩
   ·have G:¬(l.length:Int)<(k:Int)+8+(n:Int):=by omega
    have N:(k:Int)+8+(n:Int)<=(l.length:Int):=by omega
    have j:(k:Int)+8<=(k:Int)+8+(n:Int):=by omega
    clear u B;go_enter func132,ntmps132;go_wp2_with fail;refine i.out.mono ?_;rintro e d ⟨rfl,c⟩;subst c;go_wp2_with fail;refine g.out.mono ?_;rintro e d ⟨rfl,c⟩;subst c;go_wp2_with fail;rw[T6];have q:k+8+n-(k+8)=n:=by omega
    rw[q];obtain⟨b,p⟩:∃ b,b=(l.drop (k+8)).take n:=⟨_,rfl⟩;rw[<-p];have r:b.length<1000000000:=by rw[p];have c:=ZW n (l.drop (k+8));have O:=x.out;omega
    have s:=jb (Nr b r d)
    have o:Hid (FR=if (Rf.sum b:Int)≠(m:Int)then([],-1)else(b,(k:Int)+8+(n:Int))):=(show _=_ from by
     rw[t.out,if_neg (by simp;omega)]
     simp only[ZX,<-p])
    generalize Rf.sum b=S at s o;have R:=jb p;clear q r p;refine s.out.mono ?_;rintro e d ⟨rfl,c⟩;subst c;by_cases hs:(S:Int)=(m:Int)
    ·have y:((S:Int)==(m:Int))=true:=by simpa using hs
     have f:Hid (FR=(b,(k:Int)+8+(n:Int))):=(show _=_ from by rw[o.out,if_neg (by simpa using hs)]);clear hs;go_wp2;go_ret2;exact⟨by rw[f.out];rfl,rfl⟩
    ·have y:((S:Int)==(m:Int))=false:=by simpa using hs
     have f:Hid (FR=([],-1)):=(show _=_ from by rw[o.out,if_pos hs]);clear hs;go_wp2;go_ret2;exact⟨by rw[f.out];rfl,rfl⟩
def yx(l:List UInt8)(k least most:Nat):List UInt8×Int :=
 if qo l k 1<least\/(most:Int)<qo l k 1\/l.length<k+1+(qo l k 1).toNat then([],-1)
 else((l.drop (k+1)).take (qo l k 1).toNat,(k:Int)+1+qo l k 1)
theorem Bp(l:List UInt8)(k b most:Nat)(q:l.length<500000000)(r:k<=l.length+10)(z:b<=1000)(y:most<=1000)(w:World) :
 Calls prog 184 #[jd l,.int .i64 k,.int .i64 b,.int .i64 most] w fun e w'=>e = .returned (.tuple #[jd (yx l k b most).1,.int .i64 (yx l k b most).2])/\w'=w:=by
 have d:=jb (zb l k 1 (by omega) (by omega) (by omega) w);have x:IntKind.i64.wrap ((k:Int)+1)=(k:Int)+1:=zE (by omega) (by omega);have o:Hid (yx l k b most=if qo l k 1<b\/(most:Int)<qo l k 1\/l.length<k+1+(qo l k 1).toNat then([],-1)else((l.drop (k+1)).take (qo l k 1).toNat,(k:Int)+1+qo l k 1)):=(show _=_ from rfl);have g:=kj l k 1;generalize qo l k 1=A at *
 generalize yx l k b most=FR at *
 have s:Hid (l.length<500000000):=q;have t:=jb r;clear q r;by_cases c:A<(b:Int)
 ·have f:Hid (FR=([],-1)):=jb (by rw[o.out,if_pos (.inl c)])
  clear g;go_enter func184,ntmps184;go_wp2_with fail;refine d.out.mono ?_;rintro e p ⟨rfl,c⟩;subst c;go_wp2;go_ret2;exact⟨by rw[f.out];rfl,rfl⟩
 ·by_cases h2:(most:Int)<A
  ·have f:Hid (FR=([],-1)):=jb (by rw[o.out,if_pos (.inr (.inl h2))])
   clear g;go_enter func184,ntmps184;go_wp2_with fail;refine d.out.mono ?_;rintro e p ⟨rfl,c⟩;subst c;go_wp2;go_ret2;exact⟨by rw[f.out];rfl,rfl⟩
  ·obtain⟨n,rfl⟩:∃ n:Nat,A=(n:Int):=⟨A.toNat,by omega⟩
   have v:IntKind.i64.wrap ((k:Int)+1+(n:Int))=(k:Int)+1+(n:Int):=zE (by have:=t.out;have:=s.out;omega) (by have:=t.out;have:=s.out;omega);clear g;rcases ZJ l.length (k+1+n)with m|m
   ·have f:Hid (FR=([],-1)):=jb (by rw[o.out,if_pos (.inr (.inr (by simpa using m)))])
    have u:(l.length:Int)<(k:Int)+1+(n:Int):=by omega
    clear m;go_enter func184,ntmps184;go_wp2_with fail;refine d.out.mono ?_;rintro e p ⟨rfl,c⟩;subst c;go_wp2;go_ret2;exact⟨by rw[f.out];rfl,rfl⟩
   ·have u:¬(l.length:Int)<(k:Int)+1+(n:Int):=by omega
    have B:(k:Int)+1+(n:Int)<=(l.length:Int):=by omega
    have j:k+1+n-(k+1)=n:=by omega
    have i:=T6 l (k+1) (k+1+n);rw[j] at i
    have f:Hid (FR=((l.drop (k+1)).take n,(k:Int)+1+(n:Int))):=(show _=_ from by
     rw[o.out,if_neg (by simp;omega)]
     simp only[ZX])
    clear m j;go_enter func184,ntmps184;go_wp2_with fail;refine d.out.mono ?_;rintro e p ⟨rfl,c⟩;subst c;go_wp2;go_ret2;refine⟨?_,rfl⟩;rw[f.out];show Ending.returned (.tuple #[.string ((⟨l.toArray⟩:ByteArray).extract (k+1) (k+1+n)),.int .i64 ((k:Int)+1+(n:Int))])=_;rw[i]
def tq(l:List UInt8)(k:Nat):Option (Rf.Ch×Nat) :=
 if qo l k 1≠1/\qo l k 1≠2 then none
 else if (yx l (k+1) 1 16).2<0 then none
 else if qo l k 1=2 then some (⟨(yx l (k+1) 1 16).1,[],true⟩,(yx l (k+1) 1 16).2.toNat)
 else if (yx l (yx l (k+1) 1 16).2.toNat 0 40).2<0 then none
 else some (⟨(yx l (k+1) 1 16).1,(yx l (yx l (k+1) 1 16).2.toNat 0 40).1,false⟩,(yx l (yx l (k+1) 1 16).2.toNat 0 40).2.toNat)
def Zn(l:List UInt8):Nat->Nat->Option (List Rf.Ch×Nat)
 | 0,k=>some ([],k)
 | n+1,k=>match tq l k with|none=>none|some (c,k')=>match Zn l n k' with|none=>none|some (es,e)=>some (c::es,e)
def Yb(l:List UInt8)(k n:Nat):List Rf.Ch×Bool:=match Zn l n k with|none=>([],false)|some (es,e)=>(es,decide (e=l.length))
theorem Bl(l:List UInt8)(k a b:Nat)(h:¬(yx l k a b).2<0):∃ n:Nat,(yx l k a b).2=(n:Int)/\n<=l.length:=by
 unfold yx at h ⊢
 split at h
 ·simp at h
 ·rename_i hc
  rw[if_neg hc];simp only at h ⊢;have d:¬l.length<k+1+(qo l k 1).toNat:=fun t=>hc (.inr (.inr t));have c:¬qo l k 1<(a:Int):=fun t=>hc (.inl t);exact⟨k+1+(qo l k 1).toNat,by omega,by omega⟩
def po(l:List UInt8)(k n i K:Nat)(es:List Rf.Ch):Prop:=es.length=i/\i<=n/\K<=l.length/\Zn l n k=match Zn l (n-i) K with|none=>none|some (r,e)=>some (es++r,e)
theorem po.first(b:k<=l.length):po l k n 0 k []:=by
 refine⟨rfl,zU _,b,?_⟩;rw[Nat.sub_zero]
 cases Zn l n k with
 | none=>rfl
 | some p=>obtain⟨r,e⟩:=p;rfl
theorem po.bad{es:List Rf.Ch}(h:po l k n i K es)(hi:i<n)(b:tq l K=none):Yb l k n=([],false):=by
 obtain⟨_,_,_,h⟩:=h;unfold Yb;rw[h,show n-i=(n-(i+1))+1 by omega];unfold Zn;rw[b]
theorem po.next{es:List Rf.Ch}{c:Rf.Ch}(h:po l k n i K es)(hi:i<n)(b:tq l K=some (c,K'))(d:K'<=l.length):po l k n (i+1) K' (es++[c]):=by
 obtain⟨f,j,g,h⟩:=h;refine⟨by rw[ZY,f];rfl,by omega,d,?_⟩;rw[h,show n-i=(n-(i+1))+1 by omega]
 conv=>lhs;unfold Zn
 rw[b];simp only
 cases Zn l (n-(i+1)) K' with
 | none=>rfl
 | some p=>obtain⟨r,e⟩:=p;simp
theorem po.last{es:List Rf.Ch}(h:po l k n i K es)(hi:i=n):Yb l k n=(es,decide (K=l.length)):=by
 obtain⟨d,c,b,h⟩:=h;unfold Yb;rw[h,hi,Nat.sub_self];simp[Zn]
theorem vj(l:List UInt8)(k n:Nat)(hl:l.length<400000000)(hk:k<=l.length)(hn:n<100000)(w:World) :
 Calls prog 134 #[jd l,.int .i64 k,.int .i64 n] w fun e w'=>∃ v',e = .returned (.tuple #[v',.bool (Yb l k n).2])/\w'.ownsRow w.heap.size 88 3 v' (Yb l k n).1.length (jg (Yb l k n).1)/\ja w w' (fun _=>False):=by
 obtain⟨j1,a4,a3,a0,Z⟩:=info_parts Tryz.Jz;have HL:Hid (l.length<400000000):=hl;have ak:=jb (po.first (n:=n) hk);clear hl hk;go_enter func134,ntmps134;go_wp2_with fail
 go_loopw [1,6,7,8,9,10,11,12,13,14,15] (fun t1 _ _ t8 t9 _ _ _ _ _ _ wr=>∃(i K:Nat) (es:List Rf.Ch),t9 = .int .i64 i/\i<=n/\t1 = .int .i64 K/\Hid (po l k n i K es)/\wr.ownsRow w.heap.size 88 3 t8 i (jg es)/\ja w wr (fun _=>False)) (fun _ _ _ _ t9 _ _ _ _ _ _ _=>n-(intOf t9).toNat)
 case atStart=>exact⟨0,k,[],rfl,zU _,rfl,ak.out,zS _ _ _ _,ja.refl _ _⟩
 case round =>
  obtain⟨i,K,es,rfl,az,rfl,m,T,N⟩:=hrel;have V:=jb T;obtain⟨pq,cq,rfl⟩:=jj T;have t:K<=l.length:=m.out.2.2.1;have y:K<400000000:=ZZ t HL.out;clear T;rcases ZJ i n with G|b3
  ·have ah:(i:Int)<(n:Int):=by omega
   have ax:IntKind.i64.wrap ((i:Int)+1)=(i:Int)+1:=zE (by omega) (by omega);have ay:IntKind.i64.wrap ((K:Int)+1)=(K:Int)+1:=zE (by omega) (by omega);have B:=jb (zb l K 1 (by have:=HL.out;omega) (by omega) (by omega) wr)
   have z:Hid (Calls prog 184 #[jd l,.int .i64 ((K:Int)+1),.int .i64 1,.int .i64 16] wr fun e w'=>e = .returned (.tuple #[jd (yx l (K+1) 1 16).1,.int .i64 (yx l (K+1) 1 16).2])/\w'=wr):=by
    have:=Bp l (K+1) 1 16 (by have:=HL.out;omega) (by omega) (by omega) (by omega) wr;rw[Int.natCast_add] at this;exact this
   have b:tq l K=if qo l K 1≠1/\qo l K 1≠2 then none else if (yx l (K+1) 1 16).2<0 then none else if qo l K 1=2 then some (⟨(yx l (K+1) 1 16).1,[],true⟩,(yx l (K+1) 1 16).2.toNat)else if (yx l (yx l (K+1) 1 16).2.toNat 0 40).2<0 then none else some (⟨(yx l (K+1) 1 16).1,(yx l (yx l (K+1) 1 16).2.toNat 0 40).1,false⟩,(yx l (yx l (K+1) 1 16).2.toNat 0 40).2.toNat):=rfl
   have x:=Bl l (K+1) 1 16;have a9:Hid (∀ C,¬(yx l C 0 40).2<0->∃ n:Nat,(yx l C 0 40).2=(n:Int)/\n<=l.length):=jb (fun C=>Bl l C 0 40);generalize yx l (K+1) 1 16=TX at z b x;obtain⟨j,tp⟩:=TX;simp only at z b x;generalize qo l K 1=A at B b;have a8:Hid (i+1<=maxLen):=jb (by unfold maxLen;omega);have a5:Hid ((i+1)*40<=140737488355328):=jb (by omega);by_cases hA:A≠1/\A≠2
   ·have a1:¬A=1:=hA.1
    have a2:¬A=2:=hA.2;have b1:(A==1)=false:=by simpa using a1
    have b2:(A==2)=false:=by simpa using a2
    have d1:(A !=1)=true:=by simp[a1]
    have d2:(A !=2)=true:=by simp[a2]
    have E:=jb (m.out.bad G (by rw[b,if_pos hA]));clear hA b x y t;go_wp2_with fail;refine B.out.mono ?_;rintro e q ⟨rfl,c⟩;subst c;go_wp2;go_ret2;exact⟨.slice none 0 0,by rw[E.out];rfl,by rw[E.out];exact zS _ _ _ _,N⟩
   ·rw[if_neg hA] at b
    have a7:A=1\/A=2:=by
     by_cases c:A=1
     ·exact .inl c
     ·exact .inr (yG (fun h2=>hA ⟨c,h2⟩))
    by_cases ht:tp<0
    ·have E:=jb (m.out.bad G (by rw[b,if_pos ht]))
     rcases a7 with rfl|rfl
     all_goals
      clear hA b x y t;go_wp2_with fail;refine B.out.mono ?_;rintro e q ⟨rfl,c⟩;subst c;go_wp2_with fail;refine z.out.mono ?_;rintro e q ⟨rfl,c⟩;subst c;go_wp2;go_ret2;exact⟨.slice none 0 0,by rw[E.out];rfl,by rw[E.out];exact zS _ _ _ _,N⟩
    ·rw[if_neg ht] at b
     obtain⟨R,rfl,L⟩:=x ht;rw[ZX] at b;clear hA ht x;rcases a7 with rfl|rfl
     ·rw[if_neg (by decide)] at b
      have M:Hid (∀ W,Calls prog 184 #[jd l,.int .i64 R,.int .i64 0,.int .i64 40] W fun e w'=>e = .returned (.tuple #[jd (yx l R 0 40).1,.int .i64 (yx l R 0 40).2])/\w'=W):=fun W=>Bp l R 0 40 (by have:=HL.out;omega) (by omega) (by omega) (by omega) W;have p:=a9.out R;generalize yx l R 0 40=VX at M b p;obtain⟨J,vp⟩:=VX;simp only at M b p;by_cases hv:vp<0
      ·have E:=jb (m.out.bad G (by rw[b,if_pos hv]))
       clear b p y t L;go_wp2_with fail;refine B.out.mono ?_;rintro e q ⟨rfl,c⟩;subst c;go_wp2_with fail;refine z.out.mono ?_;rintro e q ⟨rfl,c⟩;subst c;go_wp2_with fail;refine(M.out _).mono ?_;rintro e q ⟨rfl,c⟩;subst c;go_wp2;go_ret2;exact⟨.slice none 0 0,by rw[E.out];rfl,by rw[E.out];exact zS _ _ _ _,N.more _⟩
      ·rw[if_neg hv] at b
       obtain⟨K2,rfl,a6⟩:=p hv;rw[ZX] at b;have Y:=jb (m.out.next G b a6);clear b p y t L a6 hv;go_wp2_with fail;refine B.out.mono ?_;rintro e q ⟨rfl,c⟩;subst c;go_wp2_with fail;refine z.out.mono ?_;rintro e q ⟨rfl,c⟩;subst c;go_wp2_with fail;refine(M.out _).mono ?_;rintro e q ⟨rfl,c⟩;subst c
       go_upto_region 19 with fail
       obtain⟨O,s⟩:∃ O,O=q.heap.size:=⟨_,rfl⟩;obtain⟨d,f⟩:∃ d,d=q.alloc (.cells #[jd j,jd J,.bool false] 88):=⟨_,rfl⟩;have C:ja q d (fun _=>False):=by rw[f];exact ja.alloc _ _ _
       have g:d.heap[O]?=some (.cells #[jd j,jd J,.bool false] 88 (0,0)):=by rw[f,s];exact je _ _
       rw[<-f,<-s];have b0:=zA (o:=0) g;have b1:=zA (o:=1) g;have b2:=zA (o:=2) g;simp at b0 b1 b2;have r:=C.row V.out (fun _ _ h=>h);have X:=jb r;have v:=r.alloc (.cells #[jd j,jd J,.bool false] 88);have H:∀ u∈jg [⟨j,J,false⟩],u.oneCell'=true:=Xf _
       have I:∀ j' u,(jg [⟨j,J,false⟩])[j']?=some u->(d.alloc (.cells #[jd j,jd J,.bool false] 88)).cell? ((⟨d.heap.size,0,none⟩:Addr).add j')=some u:=fun j' u hu=>by
        rw[Ju,zA (je d _)];simpa [jg] using hu
       have S:w.heap.size<=(d.alloc (.cells #[jd j,jd J,.bool false] 88)).heap.size:=ZF (ZF N.size C.size) (ja.alloc d _ (fun _=>False)).size;clear f s g r
       go_wp2_with (first|(at_builtin;refine jk _ rfl (.tmp 57) (.tmp 59) 38 rfl w.heap.size 88 j1 Jy 3 40 underlying38 a4 a3 a0 Z rfl (ZG 2) _ _ _ rfl v ⟨d.heap.size,0,none⟩ 1 1 (jg [⟨j,J,false⟩]) rfl rfl I H a8.out a5.out S ?_;intro p7 c7 w7 F U ag))
       have k7:ja w w7 (fun _=>False):=((N.tt C).more _).grow U (fun i e hi=>by have:=(X.out.lt i e).1;omega);rw[<-yq] at F;exact⟨⟨i+1,K2,es++[⟨j,J,false⟩],by simp,by omega,rfl,Y,F,k7⟩,by simp[intOf];omega⟩
     ·rw[if_pos rfl] at b
      have Y:=jb (m.out.next G b L);clear b y t L;go_wp2_with fail;refine B.out.mono ?_;rintro e q ⟨rfl,c⟩;subst c;go_wp2_with fail;refine z.out.mono ?_;rintro e q ⟨rfl,c⟩;subst c
      go_upto_region 19 with fail
      obtain⟨O,s⟩:∃ O,O=q.heap.size:=⟨_,rfl⟩;obtain⟨d,f⟩:∃ d,d=q.alloc (.cells #[jd j,jd [],.bool true] 88):=⟨_,rfl⟩;have C:ja q d (fun _=>False):=by rw[f];exact ja.alloc _ _ _
      have g:d.heap[O]?=some (.cells #[jd j,jd [],.bool true] 88 (0,0)):=by rw[f,s];exact je _ _
      rw[<-f,<-s];have b0:=zA (o:=0) g;have b1:=zA (o:=1) g;have b2:=zA (o:=2) g;simp at b0 b1 b2;have r:=C.row V.out (fun _ _ h=>h);have X:=jb r;have v:=r.alloc (.cells #[jd j,jd [],.bool true] 88);have H:∀ u∈jg [⟨j,[],true⟩],u.oneCell'=true:=Xf _
      have I:∀ j' u,(jg [⟨j,[],true⟩])[j']?=some u->(d.alloc (.cells #[jd j,jd [],.bool true] 88)).cell? ((⟨d.heap.size,0,none⟩:Addr).add j')=some u:=fun j' u hu=>by
       rw[Ju,zA (je d _)];simpa [jg] using hu
      have S:w.heap.size<=(d.alloc (.cells #[jd j,jd [],.bool true] 88)).heap.size:=ZF (ZF N.size C.size) (ja.alloc d _ (fun _=>False)).size;clear f s g r
      go_wp2_with (first|(at_builtin;refine jk _ rfl (.tmp 57) (.tmp 59) 38 rfl w.heap.size 88 j1 Jy 3 40 underlying38 a4 a3 a0 Z rfl (ZG 2) _ _ _ rfl v ⟨d.heap.size,0,none⟩ 1 1 (jg [⟨j,[],true⟩]) rfl rfl I H a8.out a5.out S ?_;intro p7 c7 w7 F U ag))
      have k7:ja w w7 (fun _=>False):=((N.tt C).more _).grow U (fun i e hi=>by have:=(X.out.lt i e).1;omega);rw[<-yq] at F;exact⟨⟨i+1,R,es++[⟨j,[],true⟩],by simp,by omega,rfl,Y,F,k7⟩,by simp[intOf];omega⟩
  ·have ah:¬(i:Int)<(n:Int):=by omega
   have E:=jb (m.out.last (by omega));have aj:Hid (es.length=i):=m.out.1
   have ai:((K:Int)==(l.length:Int))=decide (K=l.length):=by
    rcases Nat.decEq K l.length with h|h
    ·simp[h];omega
    ·simp[h]
   generalize decide (K=l.length)=D at E ai;clear t y;go_wp2;go_ret2;exact⟨.slice pq i cq,by rw[E.out];rfl,by rw[E.out];simp only;rw[aj.out];exact V.out,N⟩
def Aw(l:List UInt8)(k:Nat):Option (List Rf.Ch×Nat) :=
 if (qt l k).2<0\/qo (qt l k).1 0 1<1\/4<qo (qt l k).1 0 1 then none
 else if (Yb (qt l k).1 1 (qo (qt l k).1 0 1).toNat).2=true then some ((Yb (qt l k).1 1 (qo (qt l k).1 0 1).toNat).1,(qt l k).2.toNat)else none
def tu(l:List UInt8)(fin:Nat):Nat->Nat->Option (List Rf.Ch)
 | 0,_=>none
 | f+1,k=>if k<fin then(match Aw l k with|none=>none|some (es,k')=>match tu l fin f k' with|none=>none|some r=>some (es++r))else some []
theorem kv(l:List UInt8)(k:Nat)(h:¬(qt l k).2<0):∃ n:Nat,(qt l k).2=(n:Int)/\k+8<=n/\n<=l.length/\(qt l k).1.length<=l.length:=by
 unfold qt at h ⊢
 split at h
 ·simp at h
 ·rename_i hc
  rw[if_neg hc]
  split at h
  ·simp at h
  ·rename_i hs
   rw[if_neg hs];simp only at h ⊢;have d:¬l.length<k+8+(qo l k 4).toNat:=fun t=>hc (.inr (.inr t));have c:¬qo l k 4<0:=fun t=>hc (.inl t);refine⟨k+8+(qo l k 4).toNat,by omega,by omega,by omega,?_⟩;have b:=ZW (qo l k 4).toNat (l.drop (k+8));omega
theorem Gh(l:List UInt8)(k:Nat):(qt l k).1.length<=l.length:=by
 by_cases h:(qt l k).2<0
 ·unfold qt at h ⊢
  split
  ·simp
  ·rename_i hc
   rw[if_neg hc] at h
   split
   ·simp
   ·rename_i hs
    rw[if_neg hs] at h;have b:=List.length_take_le' (qo l k 4).toNat (l.drop (k+8));rw[ZU] at b;simp only;omega
 ·exact(kv l k h).choose_spec.2.2.2
theorem I9(l:List UInt8)(k a b:Nat)(h:¬(yx l k a b).2<0):a<=(yx l k a b).1.length/\(yx l k a b).1.length<=b:=by
 unfold yx at h ⊢
 split at h
 ·simp at h
 ·rename_i hc
  rw[if_neg hc];have f:¬qo l k 1<(a:Int):=fun t=>hc (.inl t);have d:¬(b:Int)<qo l k 1:=fun t=>hc (.inr (.inl t));have c:¬l.length<k+1+(qo l k 1).toNat:=fun t=>hc (.inr (.inr t));simp only[ZT,ZU];omega
theorem jcp{k':Nat}{c:Rf.Ch}(h:tq l k=some (c,k')):Rf.allowed c=true:=by
 unfold tq at h
 split at h
 ·cases h
 ·split at h
  ·cases h
  ·rename_i h1 h2
   have b:=I9 l (k+1) 1 16 h2
   split at h
   ·cases h
    exact(Rf.xz _).2 ⟨b.1,b.2,by simp,fun _=>rfl⟩
   ·split at h
    ·cases h
    ·rename_i h3 h4
     have d:=I9 l _ 0 40 h4;cases h;exact(Rf.xz _).2 ⟨b.1,b.2,d.2,fun e=>by cases e⟩
theorem jcn(l:List UInt8):∀(n k:Nat) (es:List Rf.Ch) (e:Nat),Zn l n k=some (es,e)->(∀ c∈es,Rf.allowed c=true)/\es.length=n:=by
 intro n
 induction n with
 | zero =>
  intro k es e h;simp[Zn] at h;obtain⟨rfl,_⟩:=h;exact⟨fun c hc=>(by cases hc),rfl⟩
 | succ n ih =>
  intro k es e h;unfold Zn at h
  cases h1:tq l k with
  | none=>rw[h1] at h;cases h
  | some p =>
   obtain⟨c,k'⟩:=p;rw[h1] at h;simp only at h
   cases h2:Zn l n k' with
   | none=>rw[h2] at h;cases h
   | some q =>
    obtain⟨r,g⟩:=q;rw[h2] at h;cases h;obtain⟨f,d⟩:=ih k' r e h2;refine⟨fun x b=>?_,by rw[zX,d]⟩;rcases zH.1 b with rfl|b
    ·exact jcp h1
    ·exact f x b
theorem Up:(∀ c∈(Yb l k n).1,Rf.allowed c=true)/\(Yb l k n).1.length<=n:=by
 unfold Yb
 cases h:Zn l n k with
 | none=>exact⟨fun c hc=>(by cases hc),zU _⟩
 | some p =>
  obtain⟨es,e⟩:=p;obtain⟨b,d⟩:=jcn l n k es e h;exact⟨b,by simp only;omega⟩
structure Cy(l:List UInt8)(fin K f:Nat)(out:List Rf.Ch):Prop where
 go:tu l fin (l.length+1) 0=match tu l fin f K with|none=>none|some r=>some (out++r)
 le:K<=l.length
 fu:l.length-K<f
 ok:∀ c∈out,Rf.allowed c=true
 len:out.length<=4*K
theorem Cy.first(l:List UInt8)(fin:Nat):Cy l fin 0 (l.length+1) []:=by
 refine⟨?_,zU _,by omega,fun c hc=>(by cases hc),xA _⟩;cases tu l fin (l.length+1) 0<;>rfl
theorem Cy.bad{out:List Rf.Ch}(h:Cy l fin K f out)(d:K<fin)(c:Aw l K=none):tu l fin (l.length+1) 0=none:=by
 obtain⟨b,rfl⟩:∃ b,f=b+1:=⟨f-1,by have:=h.fu;omega⟩;rw[h.go];unfold tu;rw[if_pos d,c]
theorem Cy.next{out es:List Rf.Ch}(h:Cy l fin K f out)(g:K<fin)(d:Aw l K=some (es,K'))(j:K+8<=K')(i:K'<=l.length)(b:(∀ c∈es,Rf.allowed c=true)/\es.length<=4):∃ f',Cy l fin K' f' (out++es):=by
 obtain⟨f',rfl⟩:∃ f',f=f'+1:=⟨f-1,by have:=h.fu;omega⟩;refine⟨f',?_,i,by have:=h.fu;omega,fun c hc=>?_,?_⟩
 ·rw[h.go]
  conv=>lhs;unfold tu
  rw[if_pos g,d];simp only;cases tu l fin f' K'<;>simp
 ·rcases ZD.1 hc with t|t
  ·exact h.ok c t
  ·exact b.1 c t
 ·rw[ZY]
  have:=h.len;have:=b.2;omega
theorem Cy.last{out:List Rf.Ch}(h:Cy l fin K f out)(c:¬K<fin):tu l fin (l.length+1) 0=some out:=by
 obtain⟨b,rfl⟩:∃ b,f=b+1:=⟨f-1,by have:=h.fu;omega⟩;rw[h.go];unfold tu;rw[if_neg c];simp
def Xu(out:List Rf.Ch)(j:Nat):Prop:=∀ i,i+1<j->∀ a b,out[i]?=some a->out[i+1]?=some b->a.key<b.key
theorem Rq(out:List Rf.Ch):Xu out 1:=fun i hi=>by omega
theorem Nw{out:List Rf.Ch}{a b:Rf.Ch}(h:Xu out (j+1))(f:out[j]?=some a)(d:out[j+1]?=some b)(c:a.key<b.key):Xu out (j+2):=fun i hi x y hx hy=>by
 rcases(by omega:i+1<j+1\/i=j)with t|t
 ·exact h i t x y hx hy
 ·subst t
  rw[f] at hx
  rw[d] at hy
  cases hx
  cases hy
  exact c
theorem Rs{out:List Rf.Ch}{a b:Rf.Ch}(d:j+1<n)(g:out[j]?=some a)(f:out[j+1]?=some b)(c:¬a.key<b.key):¬Xu out n:=fun h=>c (h j d a b g f)
def rrR [∀ o n, Decidable (Xu o n)] (l:List UInt8):List Rf.Ch×Bool :=
 if l.length<4 then([],false)else if qo l (l.length-4) 4<0 then([],false)else
 match tu l (qo l (l.length-4) 4).toNat (l.length+1) 0 with
 | none=>([],false)
 | some out=>if Xu out out.length then(out,decide (out≠[]/\Rf.jn out=l))else([],false)
open Classical in
theorem vg(l:List UInt8)(hl:l.length<200000)(w:World) :
 Calls prog 89 #[jd l] w fun e w'=>∃ v',e = .returned (.tuple #[v',.bool (rrR l).2])/\w'.ownsRow w.heap.size 88 3 v' (rrR l).1.length (jg (rrR l).1)/\ja w w' (fun _=>False):=by
 obtain⟨j1,bd,b9,b8,b7⟩:=info_parts Tryz.Jz;obtain⟨C,m⟩:∃ C,C=rrR l:=⟨_,rfl⟩;rw[<-m];rcases ZJ l.length 4 with o|o
 ·have d:Hid (C=([],false)):=jb (by rw[m];unfold rrR;rw[if_pos o])
  have hc:(l.length:Int)<4:=by omega
  clear m o;go_enter func89,ntmps89;go_wp2;go_ret2;exact⟨.slice none 0 0,by rw[d.out];rfl,by rw[d.out];exact zS _ _ _ _,ja.refl _ _⟩
 ·have hc:¬(l.length:Int)<4:=by omega
  have ap:rrR l=if qo l (l.length-4) 4<0 then([],false)else match tu l (qo l (l.length-4) 4).toNat (l.length+1) 0 with|none=>([],false)|some out=>open Classical in if Xu out out.length then(out,decide (out≠[]/\Rf.jn out=l))else([],false):=by unfold rrR;rw[if_neg (by omega)]
  have ch:IntKind.i64.wrap ((l.length:Int)-4)=(l.length:Int)-4:=zE (by omega) (by omega)
  have T:Hid (Calls prog 133 #[jd l,.int .i64 ((l.length:Int)-4),.int .i64 4] w fun e w'=>e = .returned (.int .i64 (qo l (l.length-4) 4))/\w'=w):=by
   have:=zb l (l.length-4) 4 (by omega) (by omega) (by omega) w;rw[show((l.length-4:Nat):Int)=(l.length:Int)-4 by omega] at this;exact this
  rw[ap] at m;clear ap;rcases kj l (l.length-4) 4 with hE|⟨fin,hE,az⟩
  ·rw[hE] at T m
   have d:Hid (C=([],false)):=jb (by rw[m,if_pos (by omega)]);clear m hE o;go_enter func89,ntmps89;go_wp2_with fail;refine T.out.mono ?_;rintro e U ⟨rfl,p⟩;subst p;go_wp2;go_ret2;exact⟨.slice none 0 0,by rw[d.out];rfl,by rw[d.out];exact zS _ _ _ _,ja.refl _ _⟩
  ·rw[hE] at T m
   rw[if_neg (by omega),ZX] at m;have M:=jb m;have cp:¬(fin:Int)<0:=by omega
   have co:(fin:Int)<=4294967295:=by omega
   have HL:Hid (l.length<200000):=hl;clear m hE o hl az;go_enter func89,ntmps89;go_wp2_with fail;refine T.out.mono ?_;rintro e U ⟨rfl,p⟩;subst p
   go_upto_block 0 with fail
   go_cut [2,3,5,6,7,8,9,10,11] from 13 (fun _ _ t5 _ _ _ _ _ _ wc=>∃(out:List Rf.Ch) (K f:Nat),Cy l fin K f out/\¬K<fin/\wc.ownsRow U.heap.size 88 3 t5 out.length (jg out)/\ja U wc (fun _=>False))
   case first =>
    go_wp2_with fail
    go_loopw [2,3,5,6,7,8,9,10,11] (fun _ _ t5 t6 _ _ _ _ _ wr=>∃(out:List Rf.Ch) (K f:Nat),t6 = .int .i64 K/\K<=l.length/\Hid (Cy l fin K f out)/\wr.ownsRow U.heap.size 88 3 t5 out.length (jg out)/\ja U wr (fun _=>False)) (fun _ _ _ t6 _ _ _ _ _ _=>l.length-(intOf t6).toNat)
    case atStart=>exact⟨[],0,l.length+1,rfl,by omega,Cy.first l fin,zS _ _ _ _,ja.refl _ _⟩
    case round =>
     obtain⟨out,K,f,rfl,bi,z,r,G⟩:=hrel;have s:=jb r;obtain⟨pq,cq,rfl⟩:=jj r;obtain⟨q,hq⟩:∃ q,q=out.length:=⟨_,rfl⟩;have bb:q<=800000:=by have p:=z.out.len;have O:=HL.out;omega
     rw[<-hq] at s ⊢;have H:=jb hq;clear r hq;rcases ZJ K fin with v|be
     ·have bj:(K:Int)<(fin:Int):=by omega
      have B:=jb (ke l K (by have:=HL.out;omega) bi wr);have t:=kv l K;have D:=Gh l K;have c:Aw l K=if (qt l K).2<0\/qo (qt l K).1 0 1<1\/4<qo (qt l K).1 0 1 then none else if (Yb (qt l K).1 1 (qo (qt l K).1 0 1).toNat).2=true then some ((Yb (qt l K).1 1 (qo (qt l K).1 0 1).toNat).1,(qt l K).2.toNat)else none:=rfl
      generalize qt l K=FR at B t D c;obtain⟨b,nx⟩:=FR;simp only at B t D c;have F:Hid (∀ W,Calls prog 133 #[jd b,.int .i64 0,.int .i64 1] W fun e w'=>e = .returned (.int .i64 (qo b 0 1))/\w'=W):=fun W=>zb b 0 1 (by have:=HL.out;omega) (by omega) (by omega) W
      have E:1<=qo b 0 1->1<=b.length:=fun h=>by
       unfold qo at h
       split at h
       ·omega
       ·omega
      have ax:Hid (∀ W n,1<=b.length->n<100000->Calls prog 134 #[jd b,.int .i64 1,.int .i64 (n:Nat)] W fun e w'=>∃ v',e = .returned (.tuple #[v',.bool (Yb b 1 n).2])/\w'.ownsRow W.heap.size 88 3 v' (Yb b 1 n).1.length (jg (Yb b 1 n).1)/\ja W w' (fun _=>False)):=fun W n p O=>vj b 1 n (by have:=HL.out;omega) p O W;generalize qo b 0 1=A at F c E;by_cases p:nx<0
      ·have d:Hid (C=([],false)):=jb (by rw[M.out,z.out.bad v (by rw[c,if_pos (.inl p)])])
       clear c t D E;go_wp2_with fail;refine B.out.mono ?_;rintro e N ⟨rfl,O⟩;subst O;go_wp2_with fail;refine(F.out _).mono ?_;rintro e N ⟨rfl,O⟩;subst O;go_wp2;go_ret2;exact⟨.slice none 0 0,by rw[d.out];rfl,by rw[d.out];exact zS _ _ _ _,G⟩
      ·obtain⟨K',rfl,bl,Y,_⟩:=t p
       have c0:¬(K':Int)<0:=p;by_cases O:A<1
       ·have d:Hid (C=([],false)):=jb (by rw[M.out,z.out.bad v (by rw[c,if_pos (.inr (.inl O))])])
        clear c t D E p;go_wp2_with fail;refine B.out.mono ?_;rintro e N ⟨rfl,h3⟩;subst h3;go_wp2_with fail;refine(F.out _).mono ?_;rintro e N ⟨rfl,h3⟩;subst h3;go_wp2;go_ret2;exact⟨.slice none 0 0,by rw[d.out];rfl,by rw[d.out];exact zS _ _ _ _,G⟩
       ·by_cases h3:4<A
        ·have d:Hid (C=([],false)):=jb (by rw[M.out,z.out.bad v (by rw[c,if_pos (.inr (.inr h3))])])
         clear c t D E p;go_wp2_with fail;refine B.out.mono ?_;rintro e N ⟨rfl,o⟩;subst o;go_wp2_with fail;refine(F.out _).mono ?_;rintro e N ⟨rfl,o⟩;subst o;go_wp2;go_ret2;exact⟨.slice none 0 0,by rw[d.out];rfl,by rw[d.out];exact zS _ _ _ _,G⟩
        ·have ao:=E (by omega)
         obtain⟨n,rfl⟩:∃ n:Nat,A=(n:Int):=⟨A.toNat,by omega⟩;have ck:n<=4:=by omega
         have HE:=jb (fun W=>ax.out W n ao (by omega));have x:=Up (l:=b) (k:=1) (n:=n);rw[if_neg (by omega),ZX,ZX] at c;generalize Yb b 1 n=EB at HE c x;obtain⟨es,ok⟩:=EB;simp only at HE c x;clear ax E ao D t p
         cases ok with
         | false =>
          have d:Hid (C=([],false)):=jb (by rw[M.out,z.out.bad v (by rw[c,if_neg (by simp)])]);clear c x;go_wp2_with fail;refine B.out.mono ?_;rintro e N ⟨rfl,o⟩;subst o;go_wp2_with fail;refine(F.out _).mono ?_;rintro e N ⟨rfl,o⟩;subst o;go_wp2_with fail;refine(HE.out _).mono ?_;rintro e w3 ⟨v3,rfl,S,k3⟩;go_wp2;go_ret2;exact⟨.slice none 0 0,by rw[d.out];rfl,by rw[d.out];exact zS _ _ _ _,G.tt k3⟩
         | true =>
          rw[if_pos rfl] at c;obtain⟨f',am⟩:=z.out.next v c bl Y ⟨x.1,by have:=x.2;omega⟩;have bs:=jb am;have b0:es.length<=4:=by have:=x.2;omega
          clear c x am;go_wp2_with fail;refine B.out.mono ?_;rintro e N ⟨rfl,o⟩;subst o;go_wp2_with fail;refine(F.out _).mono ?_;rintro e N ⟨rfl,o⟩;subst o;go_wp2_with fail;refine(HE.out _).mono ?_;rintro e w3 ⟨v3,rfl,S,k3⟩;obtain⟨p3,c3,rfl⟩:=jj S;have X:=(xw S).src;obtain⟨ne,u⟩:∃ ne,ne=es.length:=⟨_,rfl⟩;rw[<-u] at X b0 ⊢;have bt:=jb u;have al:=k3.row s.out (fun _ _ h=>h);have bq:=jb al;have bo:Hid (q+ne<=maxLen):=jb (by unfold maxLen;omega);have bh:Hid ((q+ne)*40<=140737488355328):=jb (by omega);have ba:U.heap.size<=w3.heap.size:=ZF G.size k3.size;clear u S
          go_wp2_with (first|(at_builtin;refine za _ rfl (.tmp 52) (.tmp 53) 38 38 rfl U.heap.size 88 j1 Jy 3 40 underlying38 bd b9 b8 b7 rfl (ZG 2) _ q (jg out) rfl al _ ne (jg es) rfl X bo.out bh.out ba ?_;intro p7 c7 w7 aj bf cl))
          have k7:ja U w7 (fun _=>False):=(G.tt k3).grow bf (fun i e hi=>by have:=(bq.out.lt i e).1;omega);rw[<-zr] at aj;exact⟨⟨out++es,K',f',rfl,Y,bs,by rw[ZY,<-H.out,<-bt.out];exact aj,k7⟩,by simp[intOf];omega⟩
     ·have bj:¬(K:Int)<(fin:Int):=by omega
      go_wp2;go_meet
      case rel=>exact⟨out,K,f,z.out,by omega,by rw[<-H.out];exact s.out,G⟩
   case rest =>
    obtain⟨out,K,f,J,aq,r,kc⟩:=hcut;have an:=J.last aq;obtain⟨pq,cq,rfl⟩:=jj r;have ay:=jb (xw r);have s:=jb r;have aa:Hid (C=open Classical in if Xu out out.length then(out,decide (out≠[]/\Rf.jn out=l))else([],false)):=jb (by rw[M.out,an]);obtain⟨q,hq⟩:∃ q,q=out.length:=⟨_,rfl⟩;have bb:q<=800000:=by have p:=J.len;have O:=J.le;have h3:=HL.out;omega
    have br:=jb J.ok;rw[<-hq] at s aa ⊢;have H:=jb hq;clear J aq r an hq
    go_upto_block 2 with fail
    go_cut [2,3,12] from 13 (fun _ _ _ wd=>Xu out q/\ja wc wd (fun _=>False))
    case first =>
     go_wp2_with fail
     go_loopw [2,3,12] (fun _ _ t12 wr=>∃(j I:Nat),Hid (I=j+1)/\t12 = .int .i64 I/\j<=q/\Hid (Xu out I)/\ja wc wr (fun _=>False)) (fun _ _ t12 _=>q+1-(intOf t12).toNat)
     case atStart=>exact⟨0,1,(show 1=0+1 from rfl),rfl,zU _,Rq out,ja.refl _ _⟩
     case round =>
      obtain⟨j,I,V,rfl,cm,ar,G⟩:=hrel;rcases ZJ I q with v|be
      ·have bm:(I:Int)<(q:Int):=by omega
       have cj:IntKind.i64.wrap ((I:Int)-1)=(j:Int):=by rw[zE (by omega) (by omega)];have:=V.out;omega
       have ci:IntKind.i64.wrap ((I:Int)+1)=(I:Int)+1:=zE (by omega) (by omega);have cn:(j:Int)<(q:Int):=by have:=V.out;omega
       have a8:I<out.length:=by rw[<-H.out];exact v
       have a4:j<out.length:=by have:=V.out;omega
       have a7:=ay.out.same G;obtain⟨g,og,rfl,a0,a1,a2⟩:=a7.at a4;obtain⟨g',cg,eg,d0,d1,d2⟩:=a7.at a8;cases eg;have a6:out[j]?=some out[j]:=zL a4;have a5:out[j+1]?=some out[I]:=by rw[<-V.out];exact zL a8
       generalize out[j]=xa at a0 a6;generalize out[I]=xb at d0 a5;obtain⟨ak,av,ag⟩:=xa;obtain⟨bk,bv,bg⟩:=xb;simp only at a0 d0;have aw:=jb a6;have au:=jb a5;clear a6 a5 a8 a4 a7 a1 a2 d1 d2;by_cases hk:ak<bk
       ·have bn:Op.bytesLess ak bk=true:=by rw[bytesLess_eq];simpa using hk
        have HN:Hid (Xu out (I+1)):=jb (by have p:=ar.out;rw[V.out] at p ⊢;exact Nw p aw.out au.out hk);clear hk;go_wp2_with fail;go_quiet (fail);go_wp2;exact⟨⟨j+1,I+1,(show I+1=j+1+1 from by rw[V.out]),by simp,by have:=V.out;omega,HN,G.tt (ja.drewN _ nq _)⟩,by simp[intOf];omega⟩
       ·have bn:Op.bytesLess ak bk=false:=by rw[bytesLess_eq];simpa using hk
        have d:Hid (C=([],false)):=jb (by rw[aa.out,if_neg (Rs (j:=j) (by have:=V.out;omega) aw.out au.out hk)]);clear hk;go_wp2_with fail;go_quiet (fail);go_wp2;go_ret2;exact⟨.slice none 0 0,by rw[d.out];rfl,by rw[d.out];exact zS _ _ _ _,(kc.tt G).tt (ja.drewN _ nq _)⟩
      ·have bm:¬(I:Int)<(q:Int):=by omega
       have bp:Hid (Xu out q):=jb (fun i hi=>ar.out i (by omega));go_wp2;go_meet
       case rel=>exact⟨bp.out,G⟩
    case rest =>
     obtain⟨R,Z⟩:=hcut;have y:=aa.out;rw[if_pos R] at y;rcases ZB q with h0|h0
     ·have bc:¬(0:Int)<(q:Int):=by omega
      have d:Hid (C=(out,false)):=jb (by
       rw[y]
       have:out=[]:=xB (by rw[<-H.out];exact h0)
       simp[this])
      clear y R h0;go_wp2;go_ret2;exact⟨.slice pq q cq,by rw[d.out];rfl,by rw[d.out];simp only;rw[<-H.out];exact Z.row s.out (fun _ _ h=>h),kc.tt Z⟩
     ·have bc:(0:Int)<(q:Int):=by omega
      have u:out≠[]:=fun e=>by have:=H.out;rw[e] at this;simp at this;omega
      have L:=jb (E5 _ out (ay.out.same Z) (by have:=H.out;omega) br.out);rw[<-H.out] at L;by_cases hb:Rf.jn out=l
      ·have d:Hid (C=(out,true)):=jb (by rw[y];simp[u,hb])
       have a9:(Rf.jn out==l)=true:=by simpa using hb
       generalize Rf.jn out=RB at L a9;clear y R h0 u hb;go_wp2_with fail;refine L.out.mono ?_;rintro e w5 ⟨rfl,k5⟩;go_wp2;go_ret2;exact⟨.slice pq q cq,by rw[d.out];rfl,by rw[d.out];simp only;rw[<-H.out];exact k5.row (Z.row s.out (fun _ _ h=>h)) (fun _ _ h=>h),(kc.tt Z).tt k5⟩
      ·have d:Hid (C=(out,false)):=jb (by rw[y];simp[hb])
       have a9:(Rf.jn out==l)=false:=by simpa using hb
       generalize Rf.jn out=RB at L a9;clear y R h0 u hb;go_wp2_with fail;refine L.out.mono ?_;rintro e w5 ⟨rfl,k5⟩;go_wp2;go_ret2;exact⟨.slice pq q cq,by rw[d.out];rfl,by rw[d.out];simp only;rw[<-H.out];exact k5.row (Z.row s.out (fun _ _ h=>h)) (fun _ _ h=>h),(kc.tt Z).tt k5⟩
def fk(l:List UInt8)(k last:Nat):Option (List Rf.Ch×Nat) :=
 if (qt l k).2<0 then none
 else if qo (qt l k).1 0 8≠(last:Int)+1\/(1000000000:Int)<(last:Int)+1\/qo (qt l k).1 8 1<1\/8<qo (qt l k).1 8 1 then none
 else if (Yb (qt l k).1 9 (qo (qt l k).1 8 1).toNat).2=true then some ((Yb (qt l k).1 9 (qo (qt l k).1 8 1).toNat).1,(qt l k).2.toNat)else none
def Nu(l:List UInt8):Nat->Nat->Nat->List (List Rf.Ch)
 | 0,_,_=>[]
 | f+1,k,last=>match fk l k last with|none=>[]|some (es,k')=>es::Nu l f k' (last+1)
def rlR(l:List UInt8)(la:Nat):List (List Rf.Ch):=Nu l (l.length+1) 0 la
structure Mv(l:List UInt8)(la K f:Nat)(bs:List (List Rf.Ch)):Prop where
 go:rlR l la=bs++Nu l f K (la+bs.length)
 le:K<=l.length
 fu:l.length-K<f
 cnt:bs.length<=K
theorem Mv.first(l:List UInt8)(la:Nat):Mv l la 0 (l.length+1) []:=⟨rfl,zU _,by omega,xA _⟩
theorem Mv.stop{bs:List (List Rf.Ch)}(h:Mv l la K f bs)(c:fk l K (la+bs.length)=none):rlR l la=bs:=by
 obtain⟨b,rfl⟩:∃ b,f=b+1:=⟨f-1,by have:=h.fu;omega⟩;rw[h.go];unfold Nu;rw[c];simp
theorem Mv.next{bs:List (List Rf.Ch)}{es:List Rf.Ch}(h:Mv l la K f bs)(b:fk l K (la+bs.length)=some (es,K'))(d:K+8<=K')(c:K'<=l.length):∃ f',Mv l la K' f' (bs++[es]):=by
 obtain⟨f',rfl⟩:∃ f',f=f'+1:=⟨f-1,by have:=h.fu;omega⟩;refine⟨f',?_,c,by have:=h.fu;omega,by rw[ZY,xC];have:=h.cnt;omega⟩;rw[h.go]
 conv=>lhs;unfold Nu
 rw[b,ZY,xC,ZK];rfl
def al(w:World)(y:Nat)(c0 c2 c3 c5 c6 c7 c8:Value)(la:Nat)(bs:List (List Rf.Ch))(w':World):Prop :=
 ∃ bv,w'.heap[y]?=some (.cells #[c0,jf la,c2,c3,bv,c5,c6,c7,c8] 108 (0,0))/\Wr w w' (fun i=>i<w.heap.size) bv bs/\ja w w' (fun i=>i=y)
theorem vv{p:Option Addr}{m c b g:Nat}(h:(Value.slice p n c).ownBlock=some g):(Value.slice p m b).ownBlock=some g:=by cases p<;>exact h
theorem al.same{bs:List (List Rf.Ch)}(h:al w y c0 c2 c3 c5 c6 c7 c8 la bs W)(k:ja W W' (fun _=>False)):al w y c0 c2 c3 c5 c6 c7 c8 la bs W':=by
 obtain⟨bv,d,c,b⟩:=h;exact⟨bv,k.same d id,c.step k (fun _ t=>t.elim) (fun _ t=> .inl t),b.trans k (fun _ _ t=>t.elim)⟩
theorem Lm(hb:w.heap[y]?=some (.cells #[c0,jf la,c2,c3,.slice none 0 0,c5,c6,c7,c8] 108 (0,0)))(l:List UInt8)(hl:l.length<200000)(ar:la<=1000000000) :
 Calls prog 90 #[.pointer (some ⟨y,0,none⟩),jd l] w fun e w'=>e = .returned (.tuple #[])/\al w y c0 c2 c3 c5 c6 c7 c8 la (rlR l la) w':=by
 obtain⟨j0,hj,bf,be,bd⟩:=info_parts Tryz.wx;have ao:=zC hb;have H0:Hid (al w y c0 c2 c3 c5 c6 c7 c8 la [] w):=jb (⟨_,hb,Wr.first _ _ _,ja.refl _ _⟩);have HL:Hid (l.length<200000):=hl;have a3:Hid (la<=1000000000):=ar;clear hb hl ar;go_enter func90,ntmps90;go_wp2_with fail
 go_loopw [4,5,6,7,8,9,10] (fun t4 _ _ _ _ _ _ wr=>∃(K f:Nat) (bs:List (List Rf.Ch)),t4 = .int .i64 K/\K<=l.length/\Hid (Mv l la K f bs)/\al w y c0 c2 c3 c5 c6 c7 c8 la bs wr) (fun t4 _ _ _ _ _ _ _=>l.length-(intOf t4).toNat)
 case atStart=>exact⟨0,l.length+1,[],rfl,zU _,Mv.first l la,H0.out⟩
 case round =>
  obtain⟨K,f,bs,rfl,bm,af,aw⟩:=hrel;have N:=jb aw;obtain⟨bv,L,a9,kk⟩:=aw;obtain⟨xs,U,au⟩:=a9.row;obtain⟨pb,cb,rfl⟩:=jj U;have b1:=jb L;have bq:=jb a9;have bw:=jb au;have q1:=zA (o:=1) L;have q4:=zA (o:=4) L;simp at q1 q4;obtain⟨p,ab⟩:∃ p,p=bs.length:=⟨_,rfl⟩;have cc:p<=200000:=by have O:=af.out.cnt;have B:=HL.out;omega
  have a8:=jb U;rw[<-ab] at q4 U;have V:=jb ab;have bp:=jb U;have z:=jb (ke l K (by have:=HL.out;omega) bm wr);have s:=kv l K;have E:=Gh l K;have c:fk l K (la+p)=if (qt l K).2<0 then none else if qo (qt l K).1 0 8≠((la+p:Nat):Int)+1\/(1000000000:Int)<((la+p:Nat):Int)+1\/qo (qt l K).1 8 1<1\/8<qo (qt l K).1 8 1 then none else if (Yb (qt l K).1 9 (qo (qt l K).1 8 1).toNat).2=true then some ((Yb (qt l K).1 9 (qo (qt l K).1 8 1).toNat).1,(qt l K).2.toNat)else none:=rfl
  have r:Hid (fk l K (la+p)=none->rlR l la=bs):=jb (fun h=>af.out.stop (by rw[<-V.out];exact h));generalize qt l K=FR at z s E c;obtain⟨b,nx⟩:=FR;simp only at z s E c;have I:Hid (∀ W,Calls prog 133 #[jd b,.int .i64 8,.int .i64 1] W fun e w'=>e = .returned (.int .i64 (qo b 8 1))/\w'=W):=fun W=>zb b 8 1 (by have:=HL.out;omega) (by omega) (by omega) W;have H:Hid (∀ W,Calls prog 133 #[jd b,.int .i64 0,.int .i64 8] W fun e w'=>e = .returned (.int .i64 (qo b 0 8))/\w'=W):=fun W=>zb b 0 8 (by have:=HL.out;omega) (by omega) (by omega) W
  have F:1<=qo b 8 1->9<=b.length:=fun h=>by
   unfold qo at h
   split at h
   ·omega
   ·omega
  have ax:Hid (∀ W n,9<=b.length->n<100000->Calls prog 134 #[jd b,.int .i64 9,.int .i64 (n:Nat)] W fun e w'=>∃ v',e = .returned (.tuple #[v',.bool (Yb b 9 n).2])/\w'.ownsRow W.heap.size 88 3 v' (Yb b 9 n).1.length (jg (Yb b 9 n).1)/\ja W w' (fun _=>False)):=fun W n O B=>vj b 9 n (by have:=HL.out;omega) O B W;have cq:IntKind.i64.wrap ((la:Int)+(p:Int))=(la:Int)+(p:Int):=zE (by have:=a3.out;omega) (by have:=a3.out;omega);have cp:IntKind.i64.wrap ((la:Int)+(p:Int)+1)=(la:Int)+(p:Int)+1:=zE (by have:=a3.out;omega) (by have:=a3.out;omega);rw[show((la+p:Nat):Int)=(la:Int)+(p:Int) by omega] at c;generalize qo b 8 1=A at I c F;generalize qo b 0 8=C at H c;clear ab L a9 au U;by_cases O:nx<0
  ·have T:=jb (r.out (by rw[c,if_pos O]))
   clear c s E F;go_wp2_with fail;refine z.out.mono ?_;rintro e q ⟨rfl,B⟩;subst B;go_wp2;refine bodyPost_ret (results_none rfl _ _ _) rfl ?_;exact⟨rfl,by rw[T.out];exact N.out⟩
  ·rw[if_neg O] at c
   obtain⟨K',rfl,bn,a7,_⟩:=s O;have ca:¬(K':Int)<0:=O;by_cases B:C=(la:Int)+(p:Int)+1
   ·have n1:(C==(la:Int)+(p:Int)+1)=true:=by simpa using B
    have n2:(C !=(la:Int)+(p:Int)+1)=false:=by simp[B]
    by_cases h3:(1000000000:Int)<(la:Int)+(p:Int)+1
    ·have d1:decide ((1000000000:Int)<(la:Int)+(p:Int)+1)=true:=by simpa using h3
     have T:=jb (r.out (by rw[c,if_pos (.inr (.inl h3))]));have ag:=jb B;clear h3 B;clear c s E F O;go_wp2_with fail;refine z.out.mono ?_;rintro e q ⟨rfl,m⟩;subst m;go_wp2_with fail;go_quiet (fail);obtain⟨S,d⟩:∃ wq,wq=World.drewN q nq:=⟨_,rfl⟩;rw[<-d];have M:ja q S (fun _=>False):=by rw[d];exact ja.drewN q nq _
     clear d;go_wp2_with fail;refine(I.out _).mono ?_;rintro e R ⟨rfl,m⟩;subst m;go_wp2_with fail;refine(H.out _).mono ?_;rintro e R ⟨rfl,m⟩;subst m;go_wp2;refine bodyPost_ret (results_none rfl _ _ _) rfl ?_;exact⟨rfl,by rw[T.out];exact N.out.same M⟩
    ·have d1:decide ((1000000000:Int)<(la:Int)+(p:Int)+1)=false:=by simpa using h3
     by_cases h4:A<1
     ·have d2:decide (A<1)=true:=by simpa using h4
      have T:=jb (r.out (by rw[c,if_pos (.inr (.inr (.inl h4)))]));have ag:=jb B;clear h3 B;clear c s E F O;go_wp2_with fail;refine z.out.mono ?_;rintro e q ⟨rfl,m⟩;subst m;go_wp2_with fail;go_quiet (fail);obtain⟨S,d⟩:∃ wq,wq=World.drewN q nq:=⟨_,rfl⟩;rw[<-d];have M:ja q S (fun _=>False):=by rw[d];exact ja.drewN q nq _
      clear d;go_wp2_with fail;refine(I.out _).mono ?_;rintro e R ⟨rfl,m⟩;subst m;go_wp2_with fail;refine(H.out _).mono ?_;rintro e R ⟨rfl,m⟩;subst m;go_wp2;refine bodyPost_ret (results_none rfl _ _ _) rfl ?_;exact⟨rfl,by rw[T.out];exact N.out.same M⟩
     ·by_cases h5:8<A
      ·have d3:decide (8<A)=true:=by simpa using h5
       have T:=jb (r.out (by rw[c,if_pos (.inr (.inr (.inr h5)))]));have ag:=jb B;clear h3 B;clear c s E F O;go_wp2_with fail;refine z.out.mono ?_;rintro e q ⟨rfl,m⟩;subst m;go_wp2_with fail;go_quiet (fail);obtain⟨S,d⟩:∃ wq,wq=World.drewN q nq:=⟨_,rfl⟩;rw[<-d];have M:ja q S (fun _=>False):=by rw[d];exact ja.drewN q nq _
       clear d;go_wp2_with fail;refine(I.out _).mono ?_;rintro e R ⟨rfl,m⟩;subst m;go_wp2_with fail;refine(H.out _).mono ?_;rintro e R ⟨rfl,m⟩;subst m;go_wp2;refine bodyPost_ret (results_none rfl _ _ _) rfl ?_;exact⟨rfl,by rw[T.out];exact N.out.same M⟩
      ·have av:=F (by omega)
       obtain⟨n,rfl⟩:∃ n:Nat,A=(n:Int):=⟨A.toNat,by omega⟩;have cr:n<=8:=by omega
       have HE:=jb (fun W=>ax.out W n av (by omega));have a2:=Up (l:=b) (k:=9) (n:=n);rw[if_neg (by rintro(t|t|t|t)<;>omega),ZX,ZX] at c;generalize Yb b 9 n=EB at HE c a2;obtain⟨es,ok⟩:=EB;simp only at HE c a2;have ag:=jb B;clear ax F av E s O B h3
       cases ok with
       | false =>
        have T:=jb (r.out (by rw[c,if_neg (by simp)]));clear c a2;go_wp2_with fail;refine z.out.mono ?_;rintro e q ⟨rfl,m⟩;subst m;go_wp2_with fail;go_quiet (fail);obtain⟨S,d⟩:∃ wq,wq=World.drewN q nq:=⟨_,rfl⟩;rw[<-d];have M:ja q S (fun _=>False):=by rw[d];exact ja.drewN q nq _
        clear d;go_wp2_with fail;refine(I.out _).mono ?_;rintro e R ⟨rfl,m⟩;subst m;go_wp2_with fail;refine(H.out _).mono ?_;rintro e R ⟨rfl,m⟩;subst m;go_wp2_with fail;refine(HE.out _).mono ?_;rintro e Z ⟨v5,rfl,G,k5⟩;go_wp2;refine bodyPost_ret (results_none rfl _ _ _) rfl ?_;exact⟨rfl,by rw[T.out];exact(N.out.same M).same k5⟩
       | true =>
        rw[if_pos rfl] at c;obtain⟨f',ap⟩:=af.out.next (by rw[<-V.out];exact c) bn a7;have bu:=jb ap;clear c a2 ap;go_wp2_with fail;refine z.out.mono ?_;rintro e q ⟨rfl,m⟩;subst m;go_wp2_with fail;go_quiet (fail);obtain⟨S,d⟩:∃ wq,wq=World.drewN q nq:=⟨_,rfl⟩;rw[<-d];have M:ja q S (fun _=>False):=by rw[d];exact ja.drewN q nq _
        clear d;go_wp2_with fail;refine(I.out _).mono ?_;rintro e R ⟨rfl,m⟩;subst m;go_wp2_with fail;refine(H.out _).mono ?_;rintro e R ⟨rfl,m⟩;subst m;go_wp2_with fail;refine(HE.out _).mono ?_;rintro e Z ⟨v5,rfl,G,k5⟩;obtain⟨p5,v,rfl⟩:=jj G;obtain⟨ne,aq⟩:∃ ne,ne=es.length:=⟨_,rfl⟩;have ad:El Z (fun i=>i<w.heap.size) (.slice p5 es.length v) es:=⟨xw G,fun g hg=>⟨by have:=(G.lt g hg).1;have:=M.size;have:=kk.size;omega,(G.lt g hg).2⟩⟩
        have aa:∀ g,(Value.slice pb bs.length cb).ownBlock=some g->(Value.slice p5 es.length v).ownBlock≠some g:=fun g hg e=>by
         have m:=(G.lt g e).1;have cs:=(a8.out.lt g hg).2;have:=M.size;omega
        rw[<-aq] at ad aa ⊢;have D:=M.tt k5;have a5:=bq.out.step D (fun _ t=>t.elim) (fun _ t=> .inl t);have J:=D.same b1.out id;have a4:=D.row bp.out (fun _ _ h=>h);have Y:=D.row a8.out (fun _ _ h=>h);have an:=zA (o:=4) J;simp at an;rw[<-V.out] at an;have ai:=jb J;have X:=jb a5;have b0:=jb Y;have bx:=jb ad;have br:=jb aa
        have a6:∀ i (h:i<bs.length),∃ y',xs[i]?=some y'/\El Z (fun i=>i<w.heap.size) y' bs[i]/\∀ g,(Value.slice pb bs.length cb).ownBlock=some g->y'.ownBlock≠some g:=fun i hi=>by
         obtain⟨x,hx,bh,bg⟩:=bw.out i hi;exact⟨x,hx,bh.step D (fun _ t=>t.elim) (fun _ t=> .inl t),bg⟩
        have b2:=jb a6;have ah:=a4.alloc (.cells #[.slice p5 ne v] 38);have az:∀ u∈[Value.slice p5 ne v],u.oneCell'=true:=fun u hu=>by rw[ZE.1 hu];rfl
        have bo:Hid (p+1<=maxLen):=jb (by unfold maxLen;omega);have bl:Hid ((p+1)*24<=140737488355328):=jb (by omega);have ay:w.heap.size<=(Z.alloc (.cells #[.slice p5 ne v] 38)).heap.size:=ZF kk.size (ZF D.size (ja.alloc Z _ (fun _=>False)).size)
        have bt:Hid (∀ W6,(Z.alloc (.cells #[.slice p5 ne v] 38)).grownBy W6 (Value.slice pb p cb).ownBlock->W6.cell? ⟨y,4,none⟩=some (.slice pb p cb)/\W6.frozen? ⟨y,4,none⟩=false/\W6.heap[y]?=some (.cells #[c0,jf la,c2,c3,.slice pb bs.length cb,c5,c6,c7,c8] 108 (0,0))):=fun W6 hg=>by
         have hk:=(ja.grown hg).same ((ja.alloc Z (.cells #[.slice p5 ne v] 38) (fun _=>False)).same ai.out id) (fun e=>X.out.nv y (vv e.symm) ao);have hc:=zA (o:=4) hk;rw[<-V.out] at hc;exact⟨by simpa using hc,zB hk,hk⟩
        clear G J a5 a4 Y ad aa a6 aq
        go_wp2_with (first|(at_builtin;refine jk _ rfl (.tmp 61) (.tmp 63) 27 rfl w.heap.size 38 j0 (.slice none 0 0) 1 24 underlying27 hj bf be bd rfl xD _ _ _ rfl ah ⟨Z.heap.size,0,none⟩ 1 1 [.slice p5 ne v] rfl rfl (cell_one_new _ _ _) az bo.out bl.out ay ?_;intro p6 ae w6 bi ac bk;obtain⟨r2,r3,r4⟩:=bt.out w6 ac))
        have kA:=ja.alloc Z (.cells #[.slice p5 ne v] 38) (fun _=>False);have bj:=V.out
        have bb:=X.out.snoc (es:=es) b0.out bx.out br.out (fun i t=>zT t (ZF kk.size D.size)) ((kA.up).trans (ja.grown ac) (fun j _ e=>vv e.symm)) (v':= .slice p6 (p+1) ae) (by rw[<-bj];exact bi) (fun g hg=>by
         rcases bk with h|h
         ·exact .inl (vv (h▸hg))
         ·rw[h] at hg
          cases hg
          exact .inr kA.size) b2.out
        have k7:=ja.setCell w6 ⟨y,4,none⟩ (.slice p6 (p+1) ae);have bc:ja Z w6 (fun j=>(Value.slice pb bs.length cb).ownBlock=some j):=(kA.up).trans (ja.grown ac) (fun j _ e=>vv e.symm);exact⟨⟨K',f',bs++[es],rfl,a7,bu,.slice p6 (p+1) ae,(jc r4 _).trans rfl,bb.step k7 (fun i e=>by have e':i=y:=e;rw[e'];exact ao) (fun _ t=> .inl t),(((kk.trans D (fun _ _ h=>h.elim)).trans bc (fun i hi e=>absurd hi (X.out.nv i e)))).trans k7 (fun i _ e=>e)⟩,by simp[intOf];omega⟩
   ·have n1:(C==(la:Int)+(p:Int)+1)=false:=by simpa using B
    have n2:(C !=(la:Int)+(p:Int)+1)=true:=by simp[B]
    have T:=jb (r.out (by rw[c,if_pos (.inl B)]));clear c s E F O;go_wp2_with fail;refine z.out.mono ?_;rintro e q ⟨rfl,m⟩;subst m;go_wp2_with fail;go_quiet (fail);obtain⟨S,d⟩:∃ wq,wq=World.drewN q nq:=⟨_,rfl⟩;rw[<-d];have M:ja q S (fun _=>False):=by rw[d];exact ja.drewN q nq _
    clear d;go_wp2_with fail;refine(I.out _).mono ?_;rintro e R ⟨rfl,m⟩;subst m;go_wp2_with fail;refine(H.out _).mono ?_;rintro e R ⟨rfl,m⟩;subst m;go_wp2;refine bodyPost_ret (results_none rfl _ _ _) rfl ?_;exact⟨rfl,by rw[T.out];exact N.out.same M⟩
def Rf.Man.na(m:Rf.Man):List Nat:=m.log::(if m.base=0 then [] else [m.base])
def Rf.Man.told(m:Rf.Man):List Nat:=m.na++m.runs
theorem Rf.Man.X7(m:Rf.Man):m.told.Perm m.numbers:=by
 unfold Rf.Man.told Rf.Man.na Rf.Man.numbers Rf.Man.settled
 split
 ·exact List.perm_append_comm (l₁:=[m.log])
 ·rw[xE]
  refine List.Perm.trans ?_ (List.perm_append_comm (l₁:=[m.log]));exact List.Perm.cons _ (List.perm_append_comm (l₁:=[m.base]))
structure je6(l inn:List UInt8)(m:Rf.Man):Prop where
 fr:qt l 0=(inn,(l.length:Int))
 n0:qo inn 0 8=(m.next:Int)
 n1:qo inn 8 8=(m.last:Int)
 n2:qo inn 16 8=(m.log:Int)
 n3:qo inn 24 8=(m.base:Int)
 n4:qo inn 32 2=(m.runs.length:Int)
 len:inn.length=34+8*m.runs.length
 nr:∀ i (h:i<m.runs.length),qo inn (34+8*i) 8=(m.runs[i]:Int)
 Je:m.Good
 few:m.runs.length<65536
def Al(w:World)(y:Nat)(m:Rf.Man)(w':World):Prop :=
 ∃ rv,w'.heap[y]?=some (.cells #[jf m.next,jf m.last,jf m.log,jf m.base,.slice none 0 0,.slice none 0 0,rv,.slice none 0 0,.bool false] 108 (0,0))/\w'.ownsRow w.heap.size 3 1 rv m.runs.length (m.runs.map jf)/\ja w w' (fun i=>i=y)
theorem Al.same{m:Rf.Man}(h:Al w y m W)(k:ja W W' (fun _=>False)):Al w y m W':=by
 obtain⟨rv,d,c,b⟩:=h;exact⟨rv,k.same d id,k.row c (fun _ _ h=>h),b.trans k (fun _ _ t=>t.elim)⟩
theorem Ic(J:w.heap[y]?=some (.cells #[.int .i64 0,.int .i64 0,.int .i64 0,.int .i64 0,.slice none 0 0,.slice none 0 0,.slice none 0 0,.slice none 0 0,.bool false] 108 (0,0)))(l d:List UInt8)(m:Rf.Man)(hl:l.length<900000)(I:je6 l d m) :
 Calls prog 87 #[.pointer (some ⟨y,0,none⟩),jd l] w fun e w'=>e = .returned (.bool true)/\Al w y m w':=by
 obtain⟨j0,hj,ao,an,am⟩:=info_parts Tryz.dz;have fp:=zC J;have HM:=jb I;have f:=I.Je;have bo:1<=m.log/\m.log<m.next:=f.2.2.1 m.log (ZD.2 (.inr (ZE.2 rfl)));have bm:∀ i (h:i<m.runs.length),1<=m.runs[i]/\m.runs[i]<m.next:=fun i h=>f.2.2.1 _ (m.X7.subset (ZD.2 (.inr (zV h))))
 have bq:m.base<m.next:=by
  by_cases e:m.base=0
  ·omega
  ·exact(f.2.2.1 _ (m.X7.subset (ZD.2 (.inl (by unfold Rf.Man.na;rw[if_neg e];simp))))).2
 have b1:=ke l 0 (by omega) (zU _) w;rw[I.fr] at b1;have cc:Hid (Calls prog 132 #[jd l,.int .i64 0] w fun e w'=>e = .returned (.tuple #[jd d,.int .i64 (l.length:Int)])/\w'=w):=b1;have ay:d.length<1000000:=by have M:=I.len;have h2:=I.few;omega
 have b7:Hid (∀ W,Calls prog 133 #[jd d,.int .i64 0,.int .i64 8] W fun e w'=>e = .returned (.int .i64 (m.next:Int))/\w'=W):=fun W=>I.n0▸zb d 0 8 (by omega) (by omega) (by omega) W;have b6:Hid (∀ W,Calls prog 133 #[jd d,.int .i64 8,.int .i64 8] W fun e w'=>e = .returned (.int .i64 (m.last:Int))/\w'=W):=fun W=>I.n1▸zb d 8 8 (by omega) (by omega) (by omega) W;have b5:Hid (∀ W,Calls prog 133 #[jd d,.int .i64 16,.int .i64 8] W fun e w'=>e = .returned (.int .i64 (m.log:Int))/\w'=W):=fun W=>I.n2▸zb d 16 8 (by omega) (by omega) (by omega) W;have b4:Hid (∀ W,Calls prog 133 #[jd d,.int .i64 24,.int .i64 8] W fun e w'=>e = .returned (.int .i64 (m.base:Int))/\w'=W):=fun W=>I.n3▸zb d 24 8 (by omega) (by omega) (by omega) W;obtain⟨F,T⟩:∃ F,F=m.runs.length:=⟨_,rfl⟩;have c9:Hid (∀ W,Calls prog 133 #[jd d,.int .i64 32,.int .i64 2] W fun e w'=>e = .returned (.int .i64 (F:Int))/\w'=W):=fun W=>T▸I.n4▸zb d 32 2 (by omega) (by omega) (by omega) W;obtain⟨A,O⟩:∃ A,A=m.next:=⟨_,rfl⟩;obtain⟨la,a7⟩:∃ la,la=m.last:=⟨_,rfl⟩;obtain⟨lo,a6⟩:∃ lo,lo=m.log:=⟨_,rfl⟩;obtain⟨s,aa⟩:∃ s,s=m.base:=⟨_,rfl⟩;have fu:A<=2000000000:=by rw[O];exact f.1
 have fv:la<=1000000000:=by rw[a7];exact f.2.1
 rw[<-O] at b7;rw[<-a7] at b6;rw[<-a6] at b5;rw[<-aa] at b4;have er:1<=lo/\lo<A:=by rw[a6,O];exact bo
 have eu:s<A:=by rw[aa,O];exact bq
 have en:F<65536:=by rw[T];exact I.few
 have d1:decide ((A:Int)<0)=false:=by simp
 have d2:decide ((2000000000:Int)<(A:Int))=false:=by simp;omega
 have d3:decide ((la:Int)<0)=false:=by simp
 have d4:decide ((1000000000:Int)<(la:Int))=false:=by simp;omega
 have d5:decide ((lo:Int)<1)=false:=by simp;omega
 have d6:decide ((s:Int)<0)=false:=by simp
 have d7:decide ((F:Int)<0)=false:=by simp
 have d8:((d.length:Int)!=34+8*(F:Int))=false:=by
  have M:(d.length:Int)=34+8*(F:Int):=by have M:=I.len;rw[T];omega
  simp[M]
 have dg:IntKind.i64.wrap (8*(F:Int))=8*(F:Int):=zE (by omega) (by omega);have df:IntKind.i64.wrap (34+8*(F:Int))=34+8*(F:Int):=zE (by omega) (by omega);have HB:=jb J;have c0:=zA (o:=0) J;have c1:=zA (o:=1) J;have c2:=zA (o:=2) J;have c3:=zA (o:=3) J;simp at c0 c1 c2 c3;have f0:=zB (o:=0) J;have f1:=zB (o:=1) J;have f2:=zB (o:=2) J;have f3:=zB (o:=3) J;have HG:=jb f;have bw:=jb O;have dw:=jb a7;have cb:=jb a6;have cd:=jb aa;have bx:=jb T;have g1:=jb bm;have dy:=jb ay;have g3:=jb hl;clear I f bo bm bq b1 J O a7 a6 aa T ay hl;go_enter func87,ntmps87;go_wp2_with fail;refine cc.out.mono ?_;rintro e w1 ⟨rfl,L⟩;subst L;go_wp2_with fail;refine(b7.out _).mono ?_;rintro e q ⟨rfl,L⟩;subst L;go_wp2_with fail;refine(b6.out _).mono ?_;rintro e q ⟨rfl,L⟩;subst L;go_wp2_with fail;refine(b5.out _).mono ?_;rintro e q ⟨rfl,L⟩;subst L;go_wp2_with fail;refine(b4.out _).mono ?_;rintro e q ⟨rfl,L⟩;subst L;go_wp2_with fail;refine(c9.out _).mono ?_;rintro e q ⟨rfl,L⟩;subst L;have bt:=jc (o:=3) (jc (o:=2) (jc (o:=1) (jc (o:=0) HB.out (.int .i64 (A:Int))) (.int .i64 (la:Int))) (.int .i64 (lo:Int))) (.int .i64 (s:Int));have e4:((((q.setCell ⟨y,0,none⟩ (.int .i64 (A:Int))).setCell ⟨y,1,none⟩ (.int .i64 (la:Int))).setCell ⟨y,2,none⟩ (.int .i64 (lo:Int))).setCell ⟨y,3,none⟩ (.int .i64 (s:Int))).heap[y]?=some (.cells #[jf A,jf la,jf lo,jf s,.slice none 0 0,.slice none 0 0,.slice none 0 0,.slice none 0 0,.bool false] 108 (0,0)):=bt;have k4:ja q ((((q.setCell ⟨y,0,none⟩ (.int .i64 (A:Int))).setCell ⟨y,1,none⟩ (.int .i64 (la:Int))).setCell ⟨y,2,none⟩ (.int .i64 (lo:Int))).setCell ⟨y,3,none⟩ (.int .i64 (s:Int))) (fun i=>i=y):=(((ja.setCell q ⟨y,0,none⟩ _).tt (ja.setCell _ ⟨y,1,none⟩ _)).tt (ja.setCell _ ⟨y,2,none⟩ _)).tt (ja.setCell _ ⟨y,3,none⟩ _);clear bt;generalize hW4:(((q.setCell ⟨y,0,none⟩ (.int .i64 (A:Int))).setCell ⟨y,1,none⟩ (.int .i64 (la:Int))).setCell ⟨y,2,none⟩ (.int .i64 (lo:Int))).setCell ⟨y,3,none⟩ (.int .i64 (s:Int))=R at e4 k4 ⊢;clear hW4;have e0:=jb e4;have q0:=zA (o:=0) e4;have q1:=zA (o:=1) e4;have q2:=zA (o:=2) e4;have q3:=zA (o:=3) e4;simp at q0 q1 q2 q3;have HT:Hid (m.na=lo::(if s=0 then [] else [s])):=(show _=_ from by rw[cb.out,cd.out];rfl);have bh:=(ja.alloc R (.cells #[.int .i64 (lo:Int)] 3) (fun _=>False)).cell q3 id;have af:=World.ownsRow_lit (base:=q.heap.size) (e:=3) (size:=1) R #[.int .i64 (lo:Int)] 1 k4.size (by unfold maxLen;omega) rfl;have v:=jb af;clear c0 c1 c2 c3 f0 f1 f2 f3 e4 af cc b7 b6 b5 b4 c9
 go_upto_if 105 with fail
 obtain⟨w5,au⟩:∃ w5,w5=R.alloc (.cells #[.int .i64 (lo:Int)] 3):=⟨_,rfl⟩;rw[<-au] at v bh ⊢;have U:∃ g,R.heap.size=g:=⟨_,rfl⟩;obtain⟨g,U⟩:=U;rw[U] at v ⊢;have k5:ja R w5 (fun _=>False):=by rw[au];exact ja.alloc R _ _
 have g4:=jb U;have e5:=k5.same e0.out id;have b8:=jb e5;have bi:=zA (o:=3) e5;simp at bi;clear au U e5 bh
 go_cut [8] from 13 (fun s8 wd=>∃ p n c,s8 = .slice p n c/\Hid (n=m.na.length)/\n<=2/\1<=n/\wd.ownsRow q.heap.size 3 1 (.slice p n c) n (m.na.map jf)/\ja w5 wd (fun i=>q.heap.size<=i))
 case first =>
  rcases ZB s with h0|h0
  ·have dr:¬(0:Int)<(s:Int):=by omega
   have X:Hid (m.na=[lo]):=(show _=_ from by rw[HT.out,if_pos h0]);clear h0;go_wp2;go_meet
   case rel=>exact⟨_,1,1,rfl,by rw[X.out];exact rfl,by omega,by omega,by rw[X.out];exact v.out,ja.refl _ _⟩
  ·have dr:(0:Int)<(s:Int):=by omega
   have X:Hid (m.na=[lo]++[s]):=(show _=_ from by rw[HT.out,if_neg (by omega)];rfl);have cf:=v.out.alloc (.cells #[.int .i64 (s:Int)] 3);have B:∀ u∈[Value.int .i64 (s:Int)],u.oneCell'=true:=fun u hu=>by rw[ZE.1 hu];rfl
   have a2:Hid (1+1<=maxLen):=jb (by unfold maxLen;omega);have a1:Hid ((1+1)*8<=140737488355328):=jb (by omega);have H:q.heap.size<=(w5.alloc (.cells #[.int .i64 (s:Int)] 3)).heap.size:=ZF k4.size (ZF k5.size (ja.alloc w5 _ (fun _=>False)).size);clear h0
   go_wp2_with (first|(at_builtin;refine jk _ rfl (.tmp 106) (.tmp 111) 39 rfl q.heap.size 3 j0 (.int .i64 0) 1 8 underlying39 hj ao an am rfl xD _ _ _ rfl cf ⟨w5.heap.size,0,none⟩ 1 1 [.int .i64 (s:Int)] rfl rfl (cell_one_new _ _ _) B a2.out a1.out H ?_;intro p6 c6 w6 di dq fw))
   go_meet
   case rel=>exact⟨p6,2,c6,rfl,by rw[X.out];exact rfl,by omega,by omega,by rw[X.out];exact di,((ja.alloc w5 _ (fun _=>False)).up).trans (ja.grown dq) (fun i _ e=>(v.out.lt i e.symm).1)⟩
 case rest =>
  obtain⟨p8,n8,c8,rfl,dv,ep,eq,C,k8⟩:=hcut;have D:=jb C;have a3:wc.heap[y]?=some (.cells #[jf A,jf la,jf lo,jf s,.slice none 0 0,.slice none 0 0,.slice none 0 0,.slice none 0 0,.bool false] 108 (0,0)):=k8.same b8.out (fun t=>by have t':q.heap.size<=y:=t;omega);have bd:=jb a3;have dc:ja q wc (fun i=>i=y):=(k4.trans k5 (fun _ _ t=>t.elim)).trans k8 (fun i hi t=>absurd hi (Nat.not_lt.2 t))
  have cm:Hid (∀(i:Nat) (h:i<m.runs.length) W,Calls prog 133 #[jd d,.int .i64 ((34:Int)+8*(i:Int)),.int .i64 8] W fun e w'=>e = .returned (.int .i64 (m.runs[i]:Int))/\w'=W):=fun i h W=>by
   have M:=zb d (34+8*i) 8 (by have:=dy.out;omega) (by have h2:=HM.out.few;omega) (by omega) W;rw[HM.out.nr i h] at M;rw[show((34+8*i:Nat):Int)=(34:Int)+8*(i:Int) by omega] at M;exact M
  clear C a3 q0 q1 q2 q3 bi dg df d1 d2 d3 d4 d5 d6 d7 d8 v;go_wp2_with fail
  go_loopw [8,9,10] (fun t8 t9 _ wr=>∃(j:Nat) (rv:Value),t9 = .int .i64 j/\j<=F/\wr.heap[y]?=some (.cells #[jf A,jf la,jf lo,jf s,.slice none 0 0,.slice none 0 0,rv,.slice none 0 0,.bool false] 108 (0,0))/\wr.ownsRow q.heap.size 3 1 rv j ((m.runs.take j).map jf)/\wr.ownsRow q.heap.size 3 1 t8 (n8+j) ((m.na++m.runs.take j).map jf)/\Hid (∀ g,rv.ownBlock=some g->t8.ownBlock≠some g)/\ja q wr (fun i=>i=y)) (fun _ t9 _ _=>F-(intOf t9).toNat)
  case atStart=>exact⟨0,.slice none 0 0,rfl,zU _,bd.out,zS _ _ _ _,by simp only[List.take_zero,ZC];exact D.out,fun g f=>(by cases f),dc⟩
  case round =>
   obtain⟨j,rv,rfl,fz,N,S,C,bb,kk⟩:=hrel;obtain⟨pr,cr,rfl⟩:=jj S;obtain⟨pl,cl,rfl⟩:=jj C;obtain⟨G,aw⟩:∃ G,G=n8+j:=⟨_,rfl⟩;rw[<-aw] at C bb ⊢;have b3:=jb aw;have eo:G<70000:=by omega
   have bu:=jb N;have Y:=jb S;have D:=jb C;clear aw;rcases ZJ j F with dj|g0
   ·have dm:(j:Int)<(F:Int):=by omega
    have fs:IntKind.i64.wrap ((j:Int)+1)=(j:Int)+1:=zE (by omega) (by omega);have em:IntKind.i64.wrap (8*(j:Int))=8*(j:Int):=zE (by omega) (by omega);have e2:IntKind.i64.wrap (34+8*(j:Int))=34+8*(j:Int):=zE (by omega) (by omega);have M:j<m.runs.length:=by rw[<-bx.out];exact dj
    have bz:=jb (cm.out j M);have b2:Hid (m.runs.take (j+1)=m.runs.take j++[m.runs[j]]):=(show _=_ from(List.take_append_getElem M).symm);generalize m.runs[j]=r at bz b2;have q6:=zA (o:=6) N;simp at q6;have a4:=S.alloc (.cells #[.int .i64 (r:Int)] 3);have B:∀ u∈[Value.int .i64 (r:Int)],u.oneCell'=true:=fun u hu=>by rw[ZE.1 hu];rfl
    have a2:Hid (j+1<=maxLen):=jb (by unfold maxLen;omega);have a1:Hid ((j+1)*8<=140737488355328):=jb (by omega);have H:q.heap.size<=(wr.alloc (.cells #[.int .i64 (r:Int)] 3)).heap.size:=ZF kk.size (ja.alloc wr _ (fun _=>False)).size
    have ds:Hid (∀ W3,(wr.alloc (.cells #[.int .i64 (r:Int)] 3)).grownBy W3 (Value.slice pr j cr).ownBlock->W3.cell? ⟨y,6,none⟩=some (.slice pr j cr)/\W3.frozen? ⟨y,6,none⟩=false/\W3.heap[y]?=some (.cells #[jf A,jf la,jf lo,jf s,.slice none 0 0,.slice none 0 0,.slice pr j cr,.slice none 0 0,.bool false] 108 (0,0))):=fun W3 f=>by
     have hk:=(ja.grown f).same ((ja.alloc wr (.cells #[.int .i64 (r:Int)] 3) (fun _=>False)).same bu.out id) (fun e=>by have:=(Y.out.lt y e.symm).1;omega);have hc:=zA (o:=6) hk;exact⟨by simpa using hc,zB hk,hk⟩
    clear M N S C;go_wp2_with fail;refine(bz.out _).mono ?_;rintro e w3 ⟨rfl,L⟩;subst L
    go_upto_region 19 with(first|(at_builtin;refine jk _ rfl (.tmp 127) (.tmp 129) 39 rfl q.heap.size 3 j0 (.int .i64 0) 1 8 underlying39 hj ao an am rfl xD _ _ _ rfl a4 ⟨w3.heap.size,0,none⟩ 1 1 [.int .i64 (r:Int)] rfl rfl (cell_one_new _ _ _) B a2.out a1.out H ?_;intro p4 c4 R av b0 bp;obtain⟨r2,r3,r4⟩:=ds.out R b0))
    have kA:ja w3 R (fun i=>(Value.slice pr j cr).ownBlock=some i):=((ja.alloc w3 _ (fun _=>False)).up).trans (ja.grown b0) (fun i _ e=>e.symm);have kS:=ja.setCell R ⟨y,6,none⟩ (.slice p4 (j+1) c4);have e5:(R.setCell ⟨y,6,none⟩ (.slice p4 (j+1) c4)).heap[y]?=some (.cells #[jf A,jf la,jf lo,jf s,.slice none 0 0,.slice none 0 0,.slice p4 (j+1) c4,.slice none 0 0,.bool false] 108 (0,0)):=(jc r4 _).trans rfl;have a0:=kS.row av (fun g f e=>by have e':g=y:=e;have:=(av.lt g f).1;omega);obtain⟨w6,bk⟩:∃ w6,w6=R.setCell ⟨y,6,none⟩ (.slice p4 (j+1) c4):=⟨_,rfl⟩;rw[<-bk] at kS e5 a0 ⊢;clear bk
    have bs:∀ g,(Value.slice p4 (j+1) c4).ownBlock=some g->(Value.slice pr j cr).ownBlock=some g\/w3.heap.size<=g:=fun g f=>by
     rcases bp with h|h
     ·exact .inl (h▸f)
     ·rw[h] at f
      cases f;exact .inr (ja.alloc w3 _ (fun _=>False)).size
    have al:ja w3 w6 (fun i=>(Value.slice pr j cr).ownBlock=some i\/i=y):=(kA.mono (fun _ _ t=> .inl t)).trans kS (fun i _ e=> .inr e)
    have hA:∀ g,(Value.slice p4 (j+1) c4).ownBlock=some g->(Value.slice pl G cl).ownBlock≠some g:=fun g f e=>by
     rcases bs g f with h|h
     ·exact bb.out g h e
     ·have:=(D.out.lt g e).2;omega
    have Z:=al.row D.out (fun g f t=>by
     rcases t with t|t
     ·exact bb.out g t f
     ·have:=(D.out.lt g f).1;omega)
    have bc:=Z.alloc (.cells #[.int .i64 (r:Int)] 3);have ck:Hid (G+1<=maxLen):=jb (by unfold maxLen;omega);have cj:Hid ((G+1)*8<=140737488355328):=jb (by omega);have ce:q.heap.size<=(w6.alloc (.cells #[.int .i64 (r:Int)] 3)).heap.size:=ZF kk.size (ZF al.size (ja.alloc w6 _ (fun _=>False)).size);have b8:=jb e5;have bv:=jb a0;have H8:=jb Z;have HA:=jb hA;clear e5 a0 Z hA bs bp b0 av r2 r3 r4 a4 H
    go_wp2_with (first|(at_builtin;refine jk _ rfl (.tmp 133) (.tmp 135) 39 rfl q.heap.size 3 j0 (.int .i64 0) 1 8 underlying39 hj ao an am rfl xD _ _ _ rfl bc ⟨w6.heap.size,0,none⟩ 1 1 [.int .i64 (r:Int)] rfl rfl (cell_one_new _ _ _) B ck.out cj.out ce ?_;intro p7 c7 w7 dh dp dk))
    have bj:=ja.alloc w6 (.cells #[.int .i64 (r:Int)] 3) (fun _=>False);have ak:ja w6 w7 (fun i=>(Value.slice pl G cl).ownBlock=some i):=(bj.up).trans (ja.grown dp) (fun i _ e=>e.symm);have de:∀ {p:Option Addr} {n c:Nat} {W:World} {xs:List Value},W.ownsRow q.heap.size 3 1 (.slice p n c) n xs->¬(Value.slice p n c).ownBlock=some y:=fun h e=>by have:=(h.lt y e).1;omega
    refine⟨⟨j+1,.slice p4 (j+1) c4,by simp,by omega,ak.same b8.out (de H8.out),?_,?_,?_,(kk.trans al (fun i hi t=>by
     rcases t with t|t
     ·have:=(Y.out.lt i t).1;omega
     ·exact t)).trans ak (fun i hi t=>by have:=(H8.out.lt i t).1;omega)⟩,by simp[intOf];omega⟩
    ·rw[b2.out,ZA]
     exact ak.row bv.out (fun g f=>HA.out g f)
    ·rw[b2.out,<-ZK,ZA,<-ZL,<-b3.out]
     exact dh
    ·exact fun g f e=>by
      rcases dk with h|h
      ·exact HA.out g f (h▸e)
      ·rw[h] at e
       cases e;have:=(bv.out.lt _ f).2;have:=bj.size;omega
   ·have dm:¬(j:Int)<(F:Int):=by omega
    have a8:j=m.runs.length:=by rw[<-bx.out];omega
    have bl:m.runs.take j=m.runs:=by rw[a8];exact zW
    rw[bl] at Y D;have br:Al q y m wr:=⟨_,by have:=N;rw[bw.out,dw.out,cb.out,cd.out] at this;exact this,by rw[<-a8];exact Y.out,kk⟩;have ca:=jb br
    have E:G=m.told.length:=by
     unfold Rf.Man.told;rw[ZY,<-a8,<-dv.out];exact b3.out
    have V:zl wr (.slice pl G cl) m.told:=ze D.out E.symm;have bn:0<m.told.length:=by have:=b3.out;omega
    obtain⟨gl,ol,rfl,ci⟩:=(by rw[E] at V;exact V.at bn:∃ b o,pl=some ⟨b,o,none⟩/\wr.cell? ⟨b,o+0,none⟩=some (jf m.told[0]))
    have b9:Hid (∀ k (h:k<m.told.length),wr.cell? ⟨gl,ol+k,none⟩=some (jf m.told[k])):=fun k h=>by
     rw[E] at V;obtain⟨b,o,e,M⟩:=V.at h;cases e;exact M
    have dt:=jb E;have du:Hid (∀ a b (ha:a<m.told.length) (J:b<m.told.length),a≠b->m.told[a]≠m.told[b]):=fun a b ha J hab e=>hab ((List.getElem_inj ((m.X7.nodup_iff).2 HG.out.2.2.2)).1 e);have dx:Hid (∀ a (ha:a<m.told.length),1<=m.told[a]/\m.told[a]<A):=fun a ha=>by rw[bw.out];exact HG.out.2.2.1 _ (m.X7.subset (zV ha))
    have q0:=zA (o:=0) N;simp at q0;obtain⟨wA,ar⟩:∃ wA,wA=wr:=⟨_,rfl⟩;rw[<-ar] at b9 ca q0 ⊢;have fn:ja wA wr (fun _=>False):=by rw[ar];exact ja.refl _ _
    clear ci N S C br E V bn a8 bl ar bu Y D;go_wp2_with fail
    go_loopw [11,12] (fun t11 _ wr2=>∃ i:Nat,t11 = .int .i64 i/\i<=G/\ja wA wr2 (fun _=>False)) (fun t11 _ _=>G-(intOf t11).toNat)
    case atStart=>exact⟨0,rfl,zU _,ja.refl _ _⟩
    case round =>
     obtain⟨i,rfl,ay,k2⟩:=hrel;rcases ZJ i G with ch|et
     ·have dn:(i:Int)<(G:Int):=by omega
      have ft:IntKind.i64.wrap ((i:Int)+1)=(i:Int)+1:=zE (by omega) (by omega);have a9:i<m.told.length:=by rw[<-dt.out];exact ch
      have hx:=dx.out i a9;have ab:=b9.out i a9;have c5:Hid (∀ a (ha:a<i),∃ z,wA.cell? ⟨gl,ol+a,none⟩=some (jf z)/\z≠m.told[i]):=fun a ha=>⟨m.told[a],b9.out a (by omega),du.out a i (by omega) a9 (by omega)⟩;generalize m.told[i]=x at hx ab c5;have ax:=k2.cell ab id;have db:=k2.cell q0 id;have t1:decide ((x:Int)<1)=false:=by simp;omega
      have t2:decide ((A:Int)<=(x:Int))=false:=by simp;omega
      have t3:¬A<=x:=by omega
      have e1:=jb ab;have g2:=jb q0;clear hx a9 ab q0;go_wp2_with fail;go_quiet (fail);obtain⟨wB,aq⟩:∃ wB,wB=World.drewN wr nq:=⟨_,rfl⟩;rw[<-aq];have kB:ja wA wB (fun _=>False):=by rw[aq];exact k2.tt (ja.drewN wr nq _)
      clear aq ax db;go_wp2_with fail
      go_loopw [12] (fun t12 wr3=>∃ k:Nat,t12 = .int .i64 k/\k<=i/\ja wA wr3 (fun _=>False)) (fun t12 _=>i-(intOf t12).toNat)
      case atStart=>exact⟨0,rfl,zU _,kB⟩
      case round =>
       obtain⟨k,rfl,fy,k3⟩:=hrel;rcases ZJ k i with cg|es
       ·have dl:(k:Int)<(i:Int):=by omega
        have fx:(k:Int)<(G:Int):=by omega
        have fq:IntKind.i64.wrap ((k:Int)+1)=(k:Int)+1:=zE (by omega) (by omega);obtain⟨z,hz,dd⟩:=c5.out k cg;have az:=k3.cell hz id;have ax:=k3.cell e1.out id;have fo:((z:Int)==(x:Int))=false:=by simp;omega
        clear hz dd;go_wp2_with fail;go_quiet (fail);obtain⟨wD,ap⟩:∃ wD,wD=World.drewN wr nq:=⟨_,rfl⟩;rw[<-ap];have kD:ja wA wD (fun _=>False):=by rw[ap];exact k3.tt (ja.drewN wr nq _)
        clear ap ax az;go_wp2;exact⟨⟨k+1,by simp,by omega,kD⟩,by simp[intOf];omega⟩
       ·have dl:¬(k:Int)<(i:Int):=by omega
        go_wp2;exact⟨⟨i+1,by simp,by omega,k3⟩,by simp[intOf];omega⟩
     ·have dn:¬(i:Int)<(G:Int):=by omega
      go_wp2;go_ret;exact⟨rfl,ca.out.same k2⟩
end Go.Proofs.YtnipbplghijdmaaGreatDoor
