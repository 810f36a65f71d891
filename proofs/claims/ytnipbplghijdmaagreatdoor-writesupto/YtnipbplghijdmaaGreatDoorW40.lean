/- W40 -/
import Derived.Test.YtnipbplghijdmaaGreatDoorS39
set_option maxRecDepth 100000
set_option maxHeartbeats 8000000
set_option linter.unusedVariables false
set_option linter.unusedSimpArgs false
namespace Go.Proofs.YtnipbplghijdmaaGreatDoor
open RowKit Maps WideShapes Go.Proofs.Tryz
structure Q7(E:Nat->Addr)(B:Nat)(W:World)(wb:Nat)(sv:Value)(sd n k np nn nt:Nat)(s:Rf.St)(cl:Bool)(Q K:Nat->Prop)(l:List Rf.Ch)(bv:Value)(N:Int)(key til:Str):Prop where
 wd:Wd E B W wb sv sd s cl k np nn nt Q K
 fit:Fits n s
 hn:n<1900000
 hk:k<510000000000
 hb:np<900000000/\nn<900000000/\nt<900000000
 chs:im W bv l
 low:l≠[]->∀ p n c,bv = .slice (some p) n c->p.block<B
 len:l.length<10000000
 sml:∀ c∈l,c.key.length<10000000/\c.value.length<10000000
 num:-9223372036854775808<=N/\N<=9223372036854775807
theorem Q7.same{E:Nat->Addr}{B:Nat}{W W':World}{b:Nat}{c:Value}{d n k g i f:Nat}{s:Rf.St}{cl:Bool}{Q K:Nat->Prop}{l:List Rf.Ch}{bv:Value}{N:Int}{key til:Str}(h:Q7 E B W b c d n k g i f s cl Q K l bv N key til)(j:ja W W' (fun _=>False)):Q7 E B W' b c d n k g i f s cl Q K l bv N key til :=
 ⟨h.wd.same j,h.fit,h.hn,h.hk,h.hb,h.chs.same j,h.low,h.len,h.sml,h.num⟩
theorem Ta(b:Array Value)(w:World):(callFunc 33 b).run prog w = .ok (.enter 33 b) w:=by kernel_rfl
theorem Tb(b:Array Value)(w:World):(callFunc 93 b).run prog w = .ok (.enter 93 b) w:=by kernel_rfl
theorem Kt(b:Array Value)(w:World):(callFunc 49 b).run prog w = .ok (.enter 49 b) w:=by kernel_rfl
theorem Ml(b:Array Value)(w:World):(callFunc 97 b).run prog w = .ok (.enter 97 b) w:=by kernel_rfl
theorem Gp(b:Array Value)(w:World):(callFunc 98 b).run prog w = .ok (.enter 98 b) w:=by kernel_rfl
theorem ym.back{W b W':World}{y:Nat}{s:Rf.St}{cl:Bool}{G:Nat->Prop}(h:ym b y s cl G W')(k:ja W b (fun _=>False)):ym W y s cl G W':=by
 obtain⟨g,f,d,c⟩:=h;have:=k.size;refine⟨g,f,(k.up).tt d,fun i t=>?_⟩;rcases c i t with t|t
 ·exact .inl t
 ·exact .inr (by omega)
section
variable {E:Nat->Addr} {B:Nat} {W:World} {wb:Nat} {sv:Value} {sd n k np nn nt:Nat} {s:Rf.St} {cl:Bool} {Q K:Nat->Prop} {l:List Rf.Ch} {bv cv:Value} {N:Int} {key til:Str} {wh:Bool}
theorem Qw(f:Int)(h:Q7 E B W wb sv sd n k np nn nt s cl Q K l bv N key til):∃ W1 bx d x y F G,Hid (W1=W.alloc (.cells #[.int .i64 f,.int .i64 N,cv,jd key,jd til,bv,.bool wh] 103))/\Hid (bx=W.heap.size)/\Hid (ja W W1 (fun _=>False))/\Hid (Q7 E B W1 wb sv sd n k np nn nt s cl Q K l bv N key til)/\Hid (ik E B W1 sd d x y s cl k F G)/\Hid (∀ i,Q i↔(F i\/G i\/i=sd))/\W1.cell? ⟨bx,0,none⟩=some (.int .i64 f)/\W1.cell? ⟨bx,1,none⟩=some (.int .i64 N)/\W1.cell? ⟨bx,3,none⟩=some (jd key)/\W1.cell? ⟨bx,4,none⟩=some (jd til)/\W1.cell? ⟨bx,5,none⟩=some bv/\W1.cell? ⟨sd,0,none⟩=some (.pointer (some ⟨d,0,none⟩))/\W1.cell? ⟨sd,1,none⟩=some (.pointer (some ⟨x,0,none⟩))/\W1.cell? ⟨sd,2,none⟩=some (.pointer (some ⟨y,0,none⟩)):=by
 obtain⟨W1,b⟩:∃ W1,W1=W.alloc (.cells #[.int .i64 f,.int .i64 N,cv,jd key,jd til,bv,.bool wh] 103):=⟨_,rfl⟩;have t:ja W W1 (fun _=>False):=by rw[b];exact ja.alloc _ _ _
 have c:W1.heap[W.heap.size]?=some (.cells #[.int .i64 f,.int .i64 N,cv,jd key,jd til,bv,.bool wh] 103 (0,0)):=by rw[b];exact je _ _
 have u:=h.same t;obtain⟨d,x,y,F,G,g,C⟩:=u.wd.side;have r:=zA (o:=0) c;have q:=zA (o:=1) c;have p:=zA (o:=3) c;have m:=zA (o:=4) c;have j:=zA (o:=5) c;have A:=zA (o:=0) g.row;have z:=zA (o:=1) g.row;have v:=zA (o:=2) g.row;simp at r q p m j A z v;exact⟨W1,_,d,x,y,F,G,b,jb rfl,t,u,g,C,r,q,p,m,j,A,z,v⟩
theorem Rf(h:Q7 E B W wb sv sd n k np nn nt s cl Q K l bv N key til)(i:j3 s.files<=6000):Calls prog 53 #[.pointer (some ⟨wb,0,none⟩),.pointer (some ⟨sd,0,none⟩),.agg #[.int .i64 1,.int .i64 N,cv,jd key,jd til,bv,.bool wh]] W (Jk E B W wb sv sd n k np nn nt Q K):=by
 obtain⟨D,C,d,x,y,F,G,c,g,f,b,HS,H,q,p,o,m,j,v,u,t⟩:=Qw (cv:=cv) (wh:=wh) 1 h;have z:=jb i;clear i;clear h;go_enter func53,ntmps53
 go_upto_region 1 with fail
 rw[<-c.out,<-g.out];go_wp2_with fail;refine(P5 b.out.wd b.out.fit (by have:=b.out.hn;omega) z.out (by have:=b.out.hk;omega) b.out.hb bv l b.out.chs b.out.low b.out.len b.out.sml).mono ?_;rintro e A ⟨rfl,r⟩;clear q p o m j v u t;go_wp2;go_ret;exact⟨rfl,r.back f.out⟩
theorem U8(h:Q7 E B W wb sv sd n k np nn nt s cl Q K l bv N key til):Calls prog 53 #[.pointer (some ⟨wb,0,none⟩),.pointer (some ⟨sd,0,none⟩),.agg #[.int .i64 3,.int .i64 N,cv,jd key,jd til,bv,.bool wh]] W (Jk E B W wb sv sd n k np nn nt Q K):=by
 obtain⟨A,z,d,x,y,F,G,c,g,f,b,HS,C,p,o,m,j,i,u,t,r⟩:=Qw (cv:=cv) (wh:=wh) 3 h;clear h;go_enter func53,ntmps53
 go_upto_region 1 with fail
 rw[<-c.out,<-g.out];go_wp2_with fail;refine(Ar b.out.wd b.out.fit (by have:=b.out.hk;omega) b.out.hb key til N b.out.num.1 b.out.num.2).mono ?_;rintro e v ⟨rfl,q⟩;clear p o m j i u t r;go_wp2;go_ret;exact⟨rfl,q.back f.out⟩
theorem Va(h:Q7 E B W wb sv sd n k np nn nt s cl Q K l bv N key til):Calls prog 53 #[.pointer (some ⟨wb,0,none⟩),.pointer (some ⟨sd,0,none⟩),.agg #[.int .i64 5,.int .i64 N,cv,jd key,jd til,bv,.bool wh]] W (Jk E B W wb sv sd n k np nn nt Q K):=by
 obtain⟨A,z,d,x,y,F,G,c,g,f,b,HS,C,p,o,m,j,i,u,t,r⟩:=Qw (cv:=cv) (wh:=wh) 5 h;clear h;go_enter func53,ntmps53
 go_upto_region 1 with fail
 rw[<-c.out,<-g.out];go_wp2_with fail;refine(Kn b.out.wd b.out.fit b.out.hb).mono ?_;rintro e v ⟨rfl,q⟩;clear p o m j i u t r;go_wp2;go_ret;exact⟨rfl,q.back f.out⟩
theorem Rh(h:Q7 E B W wb sv sd n k np nn nt s cl Q K l bv N key til):Calls prog 53 #[.pointer (some ⟨wb,0,none⟩),.pointer (some ⟨sd,0,none⟩),.agg #[.int .i64 6,.int .i64 N,cv,jd key,jd til,bv,.bool wh]] W (Jk E B W wb sv sd n k np nn nt Q K):=by
 obtain⟨i,M,d,x,y,F,G,b,g,c,j,HS,O,r,q,p,o,m,A,z,v⟩:=Qw (cv:=cv) (wh:=wh) 6 h
 have f:Hid (Calls prog 51 #[.pointer (some ⟨sd,0,none⟩)] i fun e w'=>e = .returned (.bool true)/\ja i w' (fun _=>False)):=by
  obtain⟨I,C,_⟩:=HS.out.x.zw;obtain⟨D,lv,rv,J,H,xs,u⟩:=HS.out.y;exact ff HS.out.row u.rat C (by have:=h.hk;omega)
 clear h;go_enter func53,ntmps53
 go_upto_region 1 with fail
 rw[<-b.out,<-g.out];go_wp2_with fail;refine f.out.mono ?_;rintro e L ⟨rfl,t⟩;clear r q p o m A z v;go_wp2;go_ret;exact⟨rfl,((qi.same j.out.wd j.out.fit t).mono (by omega) (by omega) (by omega) (by omega) (by omega)).back c.out⟩
end
end Go.Proofs.YtnipbplghijdmaaGreatDoor
namespace Go.Proofs.YtnipbplghijdmaaGreatDoor
open RowKit Maps WideShapes Go.Proofs.Tryz
section
variable {E:Nat->Addr} {B:Nat} {W:World} {wb:Nat} {sv:Value} {sd n k np nn nt:Nat} {s:Rf.St} {cl:Bool} {Q K:Nat->Prop} {l:List Rf.Ch} {bv cv:Value} {N:Int} {key til:Str} {wh:Bool}
theorem jan(h:Q7 E B W wb sv sd n k np nn nt s cl Q K l bv N key til):Calls prog 53 #[.pointer (some ⟨wb,0,none⟩),.pointer (some ⟨sd,0,none⟩),.agg #[.int .i64 2,.int .i64 N,cv,jd key,jd til,bv,.bool wh]] W (Jk E B W wb sv sd n k np nn nt Q K):=by
 obtain⟨c,u,d,x,y,F,G,T,p,V,H1,HS,HQ,Y,o1,r,o4,o5,c0,I,D⟩:=Qw (cv:=cv) (wh:=wh) 2 h
 have HG:Hid (∀ q,ja c q F->Calls prog 93 #[.pointer (some ⟨y,0,none⟩),jd key] q fun e w'=>e = .returned (jcj s cl key)/\ja q w' (fun _=>False)):=fun q kx=>by
  obtain⟨aa,lv,rv,xv,H,xs,hB⟩:=HS.out.y.keep kx (fun i f g=>HS.out.fg i f g);exact ja7 hB.rat key
 have Z:Hid (∀ w1',ja c w1' (fun _=>False)->Calls prog 33 #[.pointer (some ⟨x,0,none⟩),jd key] w1' fun e w'=>e = .returned (jcj s cl key)/\Yc E B w' d x s k cl F/\ja w1' w' F):=fun w1' kk=>jgi (HS.out.x.keep kk (fun _ _ t=>t.elim)) (by have:=h.hk;omega) key
 obtain⟨z,C,A,v⟩:∃ z C A,jcj s cl key = .tuple #[jd z,.bool C,.int .i64 A]:=by
  unfold jcj
  split
  ·exact⟨_,_,_,rfl⟩
  ·exact⟨_,_,_,rfl⟩
 rw[v] at HG Z;have U:=jb HS.out.sF;have ab:Hid (u<c.heap.size/\W.heap.size<=u):=(show _/\_ from⟨kt Y,by have:=p.out;omega⟩)
 have X:Hid (¬F u):=fun t=>by
  have h2:=(h.wd.side.old ((HQ.out u).2 (.inl t))).2;have:=p.out;omega
 clear v;clear h;go_enter func53,ntmps53
 go_upto_region 1 with fail
 rw[<-T.out,<-p.out];go_wp2_with fail
 go_cut [7,8,9] from 32 (fun s7 s8 s9 wd=>s7=jd z/\s8 = .bool C/\s9 = .int .i64 A/\Yc E B wd d x s k cl F/\ja c wd F)
 case first =>
  have j:ja c c.drew (fun _=>False):=ja.drew _ _;have I:c.drew.cell? ⟨sd,1,none⟩=some (.pointer (some ⟨x,0,none⟩)):=j.cell I id;have r:c.drew.cell? ⟨u,3,none⟩=some (jd key):=j.cell r id
  go_region_law (first
   | (refine jr rfl 33 [.tmp 35,.tmp 37] _ rfl Ta [.pointer (some ⟨x,0,none⟩),jd key] (by simp[Act.eval,Act.put]) (Z.out _ j) ?_
      rintro e q ⟨rfl,m,b⟩
      have M:ja c q F:=(j.up).tt b
      refine⟨_,rfl,?_⟩))
  all_goals
   go_wp2;go_meet
  all_goals exact⟨rfl,rfl,rfl,m,M⟩
 case rest =>
  obtain⟨rfl,rfl,rfl,m,b⟩:=hcut;have D:=b.cell D U.out;have r:=b.cell r X.out;have S:=jb m;have o:=jb b;clear m b c0 I Y o1 o4 o5;go_wp2_with fail
  go_cut [10,11,12] from 43 (fun s10 s11 s12 we=>s10=jd z/\s11 = .bool C/\s12 = .int .i64 A/\ja wc we (fun _=>False))
  case first =>
   have j:ja wc wc.drew (fun _=>False):=ja.drew _ _;have D:wc.drew.cell? ⟨sd,2,none⟩=some (.pointer (some ⟨y,0,none⟩)):=j.cell D id;have r:wc.drew.cell? ⟨u,3,none⟩=some (jd key):=j.cell r id
   go_region_law (first
    | (refine jr rfl 93 [.tmp 46,.tmp 48] _ rfl Tb [.pointer (some ⟨y,0,none⟩),jd key] (by simp[Act.eval,Act.put]) (HG.out _ (o.out.trans j (fun _ _ t=>t.elim))) ?_
       rintro e w3 ⟨rfl,J⟩
       have L:ja wc w3 (fun _=>False):=j.tt J
       refine⟨_,rfl,?_⟩))
   all_goals
    go_wp2;go_meet
   all_goals exact⟨rfl,rfl,rfl,L⟩
  case rest =>
   obtain⟨rfl,rfl,rfl,k3⟩:=hcut;go_wp2_with fail;refine(rh _ _).mono ?_;rintro e _ ⟨rfl,rfl⟩;go_wp2;go_ret;refine⟨by simp,qi.back V.out ?_⟩;have R:xm E B c d x s k cl F wc:=⟨F,k,xA _,S.out,o.out,fun _ t=> .inl t⟩;have O:=ym.same (HS.out.y.keep o.out (fun i f g=>HS.out.fg i f g)) k3;exact(qi.xy H1.out.wd HS.out HQ.out H1.out.fit R O).mono (by omega) (by omega) (by omega) (by omega) (by omega)
end
end Go.Proofs.YtnipbplghijdmaaGreatDoor
namespace Go.Proofs.YtnipbplghijdmaaGreatDoor
open RowKit Maps WideShapes Go.Proofs.Tryz
section
variable {E:Nat->Addr} {B:Nat} {W:World} {wb:Nat} {sv:Value} {sd n k np nn nt:Nat} {s:Rf.St} {cl:Bool} {Q K:Nat->Prop} {l:List Rf.Ch} {bv cv:Value} {N:Int} {key til:Str} {wh:Bool}
theorem U7(h:Q7 E B W wb sv sd n k np nn nt s cl Q K l bv N key til):Calls prog 53 #[.pointer (some ⟨wb,0,none⟩),.pointer (some ⟨sd,0,none⟩),.agg #[.int .i64 4,.int .i64 N,cv,jd key,jd til,bv,.bool wh]] W (Jk E B W wb sv sd n k np nn nt Q K):=by
 obtain⟨V,bx,d,x,y,F,G,t,z,v,C,HS,Y,S,R,O,M,L,U,T,A⟩:=Qw (cv:=cv) (wh:=wh) 4 h;have X:=jb (jfa HS.out.x);have u:=jb HS.out.sF;clear h;go_enter func53,ntmps53
 go_upto_region 1 with fail
 rw[<-t.out,<-z.out];clear R O M L U;go_wp2_with fail;refine X.out.mono ?_;rintro e J ⟨rfl,F',k',q,c,m,j⟩;have A:=m.cell A u.out;obtain⟨r,lv,rv,I,H,xs,p⟩:=HS.out.y.keep m (fun i f g=>HS.out.fg i f g);have D:=zA (o:=8) p.row;simp at D;have b:qi E B V wb sv sd n k np nn nt Q K J:=qi.xy C.out.wd HS.out Y.out C.out.fit ⟨F',k',q,c,m,j⟩ (ym.same ⟨r,lv,rv,I,H,xs,p⟩ (ja.refl _ _));have Z:=jb b;clear p c m j b T S;cases cl
 all_goals
  simp only[I0];go_wp2;go_ret;exact⟨rfl,(Z.out.mono (by omega) (by omega) (by omega) (by omega) (by omega)).back v.out⟩
theorem Ri(h:Q7 E B W wb sv sd n k np nn nt s cl Q K l bv N key til):Calls prog 53 #[.pointer (some ⟨wb,0,none⟩),.pointer (some ⟨sd,0,none⟩),.agg #[.int .i64 7,.int .i64 N,cv,jd key,jd til,bv,.bool wh]] W (Jk E B W wb sv sd n k np nn nt Q K):=by
 obtain⟨V,bx,d,x,y,F,G,u,A,z,D,HS,Y,S,R,O,M,L,U,T,C⟩:=Qw (cv:=cv) (wh:=wh) 7 h;have X:=jb (jep HS.out.x);have v:=jb HS.out.sF;clear h;go_enter func53,ntmps53
 go_upto_region 1 with fail
 rw[<-u.out,<-A.out];clear R O M L U;go_wp2_with fail;refine X.out.mono ?_;rintro e J ⟨rfl,F',k',r,j,p,m⟩;have C:=p.cell C v.out;have c:=HS.out.y.keep p (fun i f g=>HS.out.fg i f g);have t:=jb c;obtain⟨a1,lv,rv,xv,H,xs,q⟩:=c;have I:=zA (o:=8) q.row;have f8:=zB (o:=8) q.row;simp at I;have b:qi E B V wb sv sd n k np nn nt Q K (J.setCell ⟨y,8,none⟩ (.bool true)):=qi.xy D.out.wd HS.out Y.out D.out.fit ⟨F',k',r,j,p,m⟩ t.out.close;have Z:=jb b;clear q j p m b T S;cases cl
 all_goals
  simp only[I0];go_wp2;go_ret;exact⟨rfl,(Z.out.mono (by omega) (by omega) (by omega) (by omega) (by omega)).back z.out⟩
end
end Go.Proofs.YtnipbplghijdmaaGreatDoor
namespace Go.Proofs.YtnipbplghijdmaaGreatDoor
open RowKit Maps WideShapes Go.Proofs.Tryz
section
variable {E:Nat->Addr} {B:Nat} {W:World} {wb:Nat} {sv:Value} {sd n k np nn nt:Nat} {s:Rf.St} {cl:Bool} {Q K:Nat->Prop} {l:List Rf.Ch} {bv cv:Value} {N:Int} {key til:Str} {wh:Bool}
theorem Kb(h:Q7 E B W wb sv sd n k np nn nt s cl Q K l bv N key til):Calls prog 53 #[.pointer (some ⟨wb,0,none⟩),.pointer (some ⟨sd,0,none⟩),.agg #[.int .i64 8,.int .i64 N,cv,jd key,jd til,bv,.bool wh]] W (Jk E B W wb sv sd n k np nn nt Q K):=by
 obtain⟨T,bx,d,x,y,F,G,X,a2,a0,H1,HS,M,o0,o1,o3,o4,o5,c0,c1,c2⟩:=Qw (cv:=cv) (wh:=wh) 8 h;obtain⟨ρ,hD,hρ⟩:=HS.out.x.zw;have Z:=jb (N9 hD HS.out.x.env h.hk h.fit);have z:=jb hρ;have a1:=jb (Kr h.fit.ok);have Y:=jb h.fit.bnd.runs;clear hD hρ;clear h;go_enter func53,ntmps53
 go_upto_region 1 with fail
 rw[<-X.out,<-a2.out];clear o1 o3 o4 o5 c1 c2;go_wp2_with fail;refine Z.out.mono ?_;rintro e R ⟨H,C,A,O,U,rfl,c,S,I,u,V⟩;have e1:=zA (o:=1) c.row;have e2:=zA (o:=2) c.row;simp at e1 e2;have b:=S.same HS.out.row (fun t=>HS.out.sF (z.out sd t));have r1:=zA (o:=1) b;have r2:=zA (o:=2) b;have f1:=zB (o:=1) b;have f2:=zB (o:=2) b;simp at r1 r2;have J:sd<T.heap.size:=zC HS.out.row;have al:¬H=sd:=by omega
 have a7:¬sd=H:=by omega
 have kA:=ja.setCell R ⟨sd,1,none⟩ (.pointer (some ⟨C,0,none⟩));have L:=kA.set (p:=⟨sd,2,none⟩) rfl (.pointer (some ⟨A,0,none⟩));have j:((R.setCell ⟨sd,1,none⟩ (.pointer (some ⟨C,0,none⟩))).setCell ⟨sd,2,none⟩ (.pointer (some ⟨A,0,none⟩))).heap[sd]?=some (.cells #[.pointer (some ⟨d,0,none⟩),.pointer (some ⟨C,0,none⟩),.pointer (some ⟨A,0,none⟩)] 96 (0,0)):=(jc ((jc b _).trans rfl) _).trans rfl;have v:∀ i,O i->F i\/T.heap.size<=i:=fun i t=>(I i t).elim (fun t=> .inl (z.out i t)) .inr;have r:¬O sd:=fun t=>(v sd t).elim HS.out.sF (fun t=>by omega);have q:¬U sd:=fun t=>by have:=u sd t;omega
 have m:qi E B T wb sv sd n (k+s.files.length) np nn nt Q K ((R.setCell ⟨sd,1,none⟩ (.pointer (some ⟨C,0,none⟩))).setCell ⟨sd,2,none⟩ (.pointer (some ⟨A,0,none⟩))):=by
  refine qi.side (Q':=fun i=>O i\/U i\/i=sd) H1.out.wd ⟨d,C,A,O,U,⟨j,c.x.keep L (fun i _ e=>⟨by have D:i=sd:=e;rw[D];exact HS.out.ge.1,fun f=>by have D:i=sd:=e;rw[D] at f;exact r f⟩),c.y.keep L (fun i e g=>by have D:i=sd:=e;rw[D] at g;exact q g),c.fg,r,q,⟨HS.out.ge.1,c.ge.2⟩⟩,fun i=>Iff.rfl⟩ ?_ (fun i t=>?_) H1.out.fit
  ·refine((S.mono (fun i _ t=>(M.out i).2 (.inl (z.out i t)))).trans L (fun i _ e=>(M.out i).2 (.inr (.inr e))))
  ·rcases t with t|t|t
   ·exact(v i t).elim (fun t=> .inl ((M.out i).2 (.inl t))) .inr
   ·exact .inr (u i t)
   ·exact .inl ((M.out i).2 (.inr (.inr t)))
 have HF:=jb m;clear m j kA L b c S I u V v r q c0 o0 J;go_wp2;go_ret;exact⟨rfl,(HF.out.mono (by omega) (by have h1:=a1.out;have h2:=Y.out;omega) (by omega) (by omega) (by omega)).back a0.out⟩
theorem U9{b:Int}(h:Q7 E B W wb sv sd n k np nn nt s cl Q K l bv N key til)(c:b≠1/\b≠2/\b≠3/\b≠4/\b≠5/\b≠6/\b≠7/\b≠8/\b≠9/\b≠10/\b≠11):Calls prog 53 #[.pointer (some ⟨wb,0,none⟩),.pointer (some ⟨sd,0,none⟩),.agg #[.int .i64 b,.int .i64 N,cv,jd key,jd til,bv,.bool wh]] W (Jk E B W wb sv sd n k np nn nt Q K):=by
 obtain⟨T,S,d,x,y,F,G,f,i,g,j,HS,U,A,q,p,o,m,u,t,r⟩:=Qw (cv:=cv) (wh:=wh) b h;obtain⟨R,O,M,L,J,I,H,D,C,z,v⟩:=c;clear h;go_enter func53,ntmps53
 go_upto_region 1 with fail
 rw[<-f.out,<-i.out];clear q p o m u t r;go_wp2;go_ret;exact⟨rfl,((qi.same j.out.wd j.out.fit (ja.refl _ _)).mono (by omega) (by omega) (by omega) (by omega) (by omega)).back g.out⟩
end
end Go.Proofs.YtnipbplghijdmaaGreatDoor
namespace Go.Proofs.YtnipbplghijdmaaGreatDoor
open RowKit Maps WideShapes Go.Proofs.Tryz
section
variable {E:Nat->Addr} {B:Nat} {W:World} {wb:Nat} {sv:Value} {sd n k np nn nt:Nat} {s:Rf.St} {cl:Bool} {Q K:Nat->Prop} {l:List Rf.Ch} {bv cv:Value} {N:Int} {key til:Str} {wh:Bool}
theorem Rg(h:Q7 E B W wb sv sd n k np nn nt s cl Q K l bv N key til)(u:j3 s.files<=6000):Calls prog 53 #[.pointer (some ⟨wb,0,none⟩),.pointer (some ⟨sd,0,none⟩),.agg #[.int .i64 9,.int .i64 N,cv,jd key,jd til,bv,.bool wh]] W (Jk E B W wb sv sd n k np nn nt Q K):=by
 obtain⟨v,bx,d,x,y,F,G,D,L,J,Z,HS,Y,T,S,R,O,M,V,U,q⟩:=Qw (cv:=cv) (wh:=wh) 9 h;have X:=jb (jej HS.out.x h.fit (by have:=h.hn;omega) u (by have:=h.hk;omega));have z:Hid (∀ b,ja v b F->Calls prog 97 #[.pointer (some ⟨y,0,none⟩)] b fun e w3=>e = .returned (.int .i64 (I0 cl))/\ym b y (if cl=true then s else s.flush) cl G w3):=fun b c=>Rt (HS.out.y.keep c (fun i f g=>HS.out.fg i f g)) (by have:=h.fit.next;have:=h.hn;omega) (by have:=h.fit.bnd.runs;omega) (by have:=h.fit.bnd.mem;omega)
 have p:Hid (Fits (n+1) (if cl=true then s else s.flush)):=jb (by
  split
  ·exact h.fit.mono (by omega)
  ·exact h.fit.flush u (by have:=h.hn;omega))
 have H:=jb HS.out.sF;clear u;clear h;go_enter func53,ntmps53
 go_upto_region 1 with fail
 rw[<-D.out,<-L.out];clear S R O M V;go_wp2_with fail;refine X.out.mono ?_;rintro e b ⟨rfl,F',k',a1,j,c,m⟩;have q:=c.cell q H.out;have o:Hid (xm E B v d x (if cl=true then s else s.flush) (k+100000) cl F b):=jb (⟨F',k',by omega,j,c,m⟩);have I:=jb c;clear j c m U T;generalize (if cl=true then s else s.flush)=s' at o z p;generalize I0 cl=er at z ⊢;go_wp2_with fail
 go_cut [6] from 187 (fun s6 wd=>s6 = .bool true/\qi E B v wb sv sd (n+1) (k+100000) np nn nt Q K wd)
 case first =>
  have r:ja b b.drew (fun _=>False):=ja.drew _ _;have q:b.drew.cell? ⟨sd,2,none⟩=some (.pointer (some ⟨y,0,none⟩)):=r.cell q id
  go_region_law (first
   | (refine jr rfl 49 [.tmp 187] _ rfl Kt [.int .i64 er] (by simp[Act.eval,Act.put]) (rh _ _) ?_
      rintro e w8 ⟨rfl,rfl⟩
      refine⟨_,rfl,?_⟩)
   | (refine jr rfl 97 [.tmp 192] _ rfl Ml [.pointer (some ⟨y,0,none⟩)] (by simp[Act.eval,Act.put]) (z.out _ (I.out.trans r (fun _ _ t=>t.elim))) ?_
      rintro e w9 ⟨rfl,A⟩
      refine⟨_,rfl,?_⟩))
  all_goals
   go_wp2;go_meet
  all_goals exact⟨by simp,qi.xy Z.out.wd HS.out Y.out p.out o.out (A.back r)⟩
 case rest =>
  obtain⟨rfl,C⟩:=hcut;go_wp2;go_ret;exact⟨rfl,(C.mono (by omega) (by omega) (by omega) (by omega) (by omega)).back J.out⟩
theorem Le(h:Q7 E B W wb sv sd n k np nn nt s cl Q K l bv N key til)(u:j3 s.files<=6000):Calls prog 53 #[.pointer (some ⟨wb,0,none⟩),.pointer (some ⟨sd,0,none⟩),.agg #[.int .i64 10,.int .i64 N,cv,jd key,jd til,bv,.bool wh]] W (Jk E B W wb sv sd n k np nn nt Q K):=by
 obtain⟨v,bx,d,x,y,F,G,D,L,J,Z,HS,Y,T,S,R,O,M,V,U,q⟩:=Qw (cv:=cv) (wh:=wh) 10 h;have X:=jb (Wq HS.out.x h.fit (by have:=h.hn;omega) u (by have:=h.hk;omega));have z:Hid (∀ b,ja v b F->Calls prog 98 #[.pointer (some ⟨y,0,none⟩)] b fun e w3=>e = .returned (.int .i64 (I0 cl))/\ym b y (if cl=true then s else s.qd) cl G w3):=fun b c=>Lq (HS.out.y.keep c (fun i f g=>HS.out.fg i f g)) (by have:=h.fit.next;have:=h.hn;omega) (by have:=h.fit.bnd.live;omega)
 have p:Hid (Fits (n+1) (if cl=true then s else s.qd)):=jb (by
  split
  ·exact h.fit.mono (by omega)
  ·exact h.fit.qd u (by have:=h.hn;omega))
 have H:=jb HS.out.sF;clear u;clear h;go_enter func53,ntmps53
 go_upto_region 1 with fail
 rw[<-D.out,<-L.out];clear S R O M V;go_wp2_with fail;refine X.out.mono ?_;rintro e b ⟨rfl,F',k',a1,j,c,m⟩;have q:=c.cell q H.out;have o:Hid (xm E B v d x (if cl=true then s else s.qd) (k+100000) cl F b):=jb (⟨F',k',by omega,j,c,m⟩);have I:=jb c;clear j c m U T;generalize (if cl=true then s else s.qd)=s' at o z p;generalize I0 cl=er at z ⊢;go_wp2_with fail
 go_cut [6] from 202 (fun s6 wd=>s6 = .bool true/\qi E B v wb sv sd (n+1) (k+100000) np nn nt Q K wd)
 case first =>
  have r:ja b b.drew (fun _=>False):=ja.drew _ _;have q:b.drew.cell? ⟨sd,2,none⟩=some (.pointer (some ⟨y,0,none⟩)):=r.cell q id
  go_region_law (first
   | (refine jr rfl 49 [.tmp 202] _ rfl Kt [.int .i64 er] (by simp[Act.eval,Act.put]) (rh _ _) ?_
      rintro e w8 ⟨rfl,rfl⟩
      refine⟨_,rfl,?_⟩)
   | (refine jr rfl 98 [.tmp 207] _ rfl Gp [.pointer (some ⟨y,0,none⟩)] (by simp[Act.eval,Act.put]) (z.out _ (I.out.trans r (fun _ _ t=>t.elim))) ?_
      rintro e w9 ⟨rfl,A⟩
      refine⟨_,rfl,?_⟩))
  all_goals
   go_wp2;go_meet
  all_goals exact⟨by simp,qi.xy Z.out.wd HS.out Y.out p.out o.out (A.back r)⟩
 case rest =>
  obtain⟨rfl,C⟩:=hcut;go_wp2;go_ret;exact⟨rfl,(C.mono (by omega) (by omega) (by omega) (by omega) (by omega)).back J.out⟩
end
end Go.Proofs.YtnipbplghijdmaaGreatDoor
namespace Go.Proofs.YtnipbplghijdmaaGreatDoor
open RowKit Maps WideShapes Go.Proofs.Tryz
section
variable {E:Nat->Addr} {B:Nat} {W:World} {wb:Nat} {sv:Value} {sd n k np nn nt:Nat} {s:Rf.St} {cl:Bool} {Q K:Nat->Prop} {l:List Rf.Ch} {bv cv:Value} {N:Int} {key til:Str} {wh:Bool} {kd:Int}
theorem jao(h:Q7 E B W wb sv sd n k np nn nt s cl Q K l bv N key til)(c:kd<=10)(b:kd=1\/kd=9\/kd=10->j3 s.files<=6000):Calls prog 53 #[.pointer (some ⟨wb,0,none⟩),.pointer (some ⟨sd,0,none⟩),.agg #[.int .i64 kd,.int .i64 N,cv,jd key,jd til,bv,.bool wh]] W (Jk E B W wb sv sd n k np nn nt Q K):=by
 by_cases h1:kd=1
 ·subst h1;exact Rf h (b (.inl rfl))
 by_cases h2:kd=2
 ·subst h2;exact jan h
 by_cases h3:kd=3
 ·subst h3;exact U8 h
 by_cases h4:kd=4
 ·subst h4;exact U7 h
 by_cases h5:kd=5
 ·subst h5;exact Va h
 by_cases h6:kd=6
 ·subst h6;exact Rh h
 by_cases h7:kd=7
 ·subst h7;exact Ri h
 by_cases h8:kd=8
 ·subst h8;exact Kb h
 by_cases h9:kd=9
 ·subst h9;exact Rg h (b (.inr (.inl rfl)))
 by_cases h10:kd=10
 ·subst h10;exact Le h (b (.inr (.inr rfl)))
 exact U9 h ⟨h1,h2,h3,h4,h5,h6,h7,h8,h9,h10,by omega⟩
end
def jae(E:Nat->Addr)(B:Nat)(W:World)(wb:Nat)(sv:Value)(sd n k np nn nt:Nat)(Q K:Nat->Prop)(e:Ending)(W':World):Prop :=
 e = .returned (.bool true)/\qi E B W wb sv sd (n+4) (k+400000) (np+16) (nn+16) (nt+4) Q K W'
theorem Wo{E:Nat->Addr}{B:Nat}{W:World}{wb:Nat}{sv:Value}{sd n k np nn nt:Nat}{s:Rf.St}{cl:Bool}{Q K:Nat->Prop}(h:Wd E B W wb sv sd s cl k np nn nt Q K)(hf:Fits n s)(hn:n<1800000)(hk:k<500000000000)(hb:np<800000000/\nn<800000000/\nt<800000000):Calls prog 55 #[.pointer (some ⟨wb,0,none⟩),.pointer (some ⟨sd,0,none⟩)] W (jae E B W wb sv sd n k np nn nt Q K):=by
 have ax:Hid (Calls prog 51 #[.pointer (some ⟨sd,0,none⟩)] W fun e w'=>e = .returned (.bool true)/\ja W w' (fun _=>False)):=by
  obtain⟨d,x,y,F,G,hS,hQ⟩:=h.side;obtain⟨ρ4,D4,_⟩:=hS.x.zw;obtain⟨bk,lv,rv,xv,H,xs,hB⟩:=hS.y;exact ff hS.row hB.rat D4 (by omega)
 have HH:=jb h;have aw:=jb hf;have HN:=jb hn;have HK:=jb hk;have HB:=jb hb;clear h hf hn hk hb;go_enter func55,ntmps55;go_wp2_with fail;refine ax.out.mono ?_;rintro e w1 ⟨rfl,k1⟩;have av:=jb (HH.out.same k1);have au:=jb k1;clear k1;go_wp2_with fail;refine(Kn av.out aw.out (by have:=HB.out;omega)).mono ?_;rintro e w2 ⟨rfl,s2,bj,k2,r,u,o,Q2,K2,O,J,i,g,f,b,C,T,X⟩;have al:=jb O;have b0:=jb J;have a5:=jb C;have ao:=jb T;have ar:=jb X;have A:Hid (k2<=k+100000/\r<=np+4/\u<=nn+4/\o<=nt+1):=(show _/\_ from⟨i,g,f,b⟩);clear O J C T X i g f b;go_wp2_with fail;refine(Ar al.out b0.out (by have:=HK.out;have:=A.out;omega) (by have:=HB.out;have:=A.out;omega) [] [] 1000 (by omega) (by omega)).mono ?_;rintro e w3 ⟨rfl,s3,bi,k3,q,t,m,Q3,K3,M,I,i,g,f,b,z,S,V⟩;have ak:=jb M;have az:=jb I;have a0:=jb z;have an:=jb S;have aq:=jb V;have j:Hid (k3<=k2+100000/\q<=r+4/\t<=u+4/\m<=o+1):=(show _/\_ from⟨i,g,f,b⟩);clear M I z S V i g f b;have Y:=jb (Kb (cv:= .slice none 0 0) (wh:=false) (key:=[]) (til:=[]) (l:=[]) (bv:= .slice none 0 0) (N:=0) ⟨ak.out,az.out,(by have:=HN.out;omega),(by have:=HK.out;have:=A.out;have:=j.out;omega),(by have:=HB.out;have:=A.out;have:=j.out;omega),(.inl (Chs.nil _)),fun _ p n c e=>(by cases e),(by simp),fun c hc=>(by cases hc),(by omega)⟩);go_wp2_with fail;refine Y.out.mono ?_;rintro e w4 ⟨rfl,s4,bh,k4,ah,ai,ag,Q4,K4,L,D,i,g,f,b,v,R,U⟩;have aj:=jb L;have ay:=jb D;have Z:=jb v;have am:=jb R;have ap:=jb U;have A4:Hid (k4<=k3+100000/\ah<=q+4/\ai<=t+4/\ag<=m+1):=(show _/\_ from⟨i,g,f,b⟩);clear L D v R U i g f b Y;go_wp2_with fail;refine(Ar aj.out ay.out (by have:=HK.out;have:=A.out;have:=j.out;have:=A4.out;omega) (by have:=HB.out;have:=A.out;have:=j.out;have:=A4.out;omega) [] [] 1000 (by omega) (by omega)).mono ?_;rintro e w5 ⟨rfl,h5⟩;go_wp2;go_ret;have b1:=A.out;have b3:=j.out;have b4:=A4.out;refine⟨rfl,qi.back au.out (qi.trans a5.out ao.out ar.out (qi.trans a0.out an.out aq.out (qi.trans Z.out am.out ap.out (h5.mono (by omega) (by omega) (by omega) (by omega) (by omega)))))⟩
structure OpA where
 kd:Int
 N:Int
 cv:Value
 key:Str
 til:Str
 bv:Value
 l:List Rf.Ch
 wh:Bool
structure P0(W:World)(B b o:Nat)(x:OpA):Prop where
 c0:W.cell? ⟨b,o,none⟩=some (.int .i64 x.kd)
 c1:W.cell? ⟨b,o+1,none⟩=some (.int .i64 x.N)
 c2:W.cell? ⟨b,o+2,none⟩=some x.cv
 c3:W.cell? ⟨b,o+3,none⟩=some (jd x.key)
 c4:W.cell? ⟨b,o+4,none⟩=some (jd x.til)
 c5:W.cell? ⟨b,o+5,none⟩=some x.bv
 c6:W.cell? ⟨b,o+6,none⟩=some (.bool x.wh)
 hb:b<B
 chs:im W x.bv x.l
 low:x.l≠[]->∀ p n c,x.bv = .slice (some p) n c->p.block<B
 len:x.l.length<10000000
 sml:∀ c∈x.l,c.key.length<10000000/\c.value.length<10000000
 num:-9223372036854775808<=x.N/\x.N<=9223372036854775807
theorem P0.keep{W W':World}{B b o:Nat}{x:OpA}{T:Nat->Prop}(h:P0 W B b o x)(k:ja W W' T)(f:∀ i,T i->B<=i):P0 W' B b o x:=by
 have d:¬T b:=fun t=>by have:=f b t;have:=h.hb;omega
 exact⟨k.cell h.c0 d,k.cell h.c1 d,k.cell h.c2 d,k.cell h.c3 d,k.cell h.c4 d,k.cell h.c5 d,k.cell h.c6 d,h.hb,h.chs.keep k (fun hne p n c e t=>by have:=f _ t;have:=h.low hne p n c e;omega),h.low,h.len,h.sml,h.num⟩
def K8(W:World)(B:Nat)(p:Option Addr)(ops:List OpA):Prop:=∀ i (h:i<ops.length),∃ b o,p=some ⟨b,o,none⟩/\P0 W B b (o+i*7) ops[i]
end Go.Proofs.YtnipbplghijdmaaGreatDoor
namespace Go.Proofs.YtnipbplghijdmaaGreatDoor
open RowKit Maps WideShapes Go.Proofs.Tryz
variable {E:Nat->Addr} {B c d k n nn np nt pc sd wb:Nat} {W W' w:World} {sv:Value} {K Q:Nat->Prop} {s:Rf.St} {p:Option Addr} {ops:List OpA} {V:List (Str×List UInt8)} {nm:Str}
theorem qi.next{i:World}(h:qi E B W wb sv sd n k np nn nt Q K W')(g:ja W' i (fun _=>False)):qi E B W wb sv sd n k np nn nt Q K i:=by
 obtain⟨j,f,k',c,d,b,Q',x,p,q,v,u,s,r,o,m,l⟩:=h;exact⟨j,f,k',c,d,b,Q',x,p.same g,q,v,u,s,r,o.trans g (fun _ _ t=>t.elim),m,l⟩
theorem Wd.sized{cl:Bool}(h:Wd E B W wb sv sd s cl k np nn nt Q K)(c:Fits n s):Calls prog 52 #[.pointer (some ⟨sd,0,none⟩)] W fun e w'=>e = .returned (.int .i64 (2*j3 s.files:Nat))/\ja W w' (fun _=>False):=by
 obtain⟨d,x,y,F,G,b,j⟩:=h.side;obtain⟨g,lv,rv,i,H,xs,f⟩:=b.y;have:=c.size;exact jaq b.row f.rat (by omega)
theorem Z8.jar(h:Z8 W wb sv np nn nt K):W.cell? ⟨wb,0,none⟩=some sv:=by
 obtain⟨pv,c,b,T,h⟩:=h;have:=zA (o:=0) h.row;simpa using this
theorem jbh{v cs:Nat}{cl:Bool}{most:Int}(h:Wd E B W wb (.slice (some ⟨v,0,none⟩) 1 cs) sd s cl k 0 0 0 Q K)(H:Fits 0 s)(hk:k<=100000)(ay:W.cell? ⟨v,0,none⟩=some (.pointer (some ⟨sd,0,none⟩)))(az:¬Q v/\¬K v)(a6:K8 W B p ops)(hn:ops.length<=1048576)(hm:most<=10):Calls prog 17 #[.pointer (some ⟨wb,0,none⟩),.slice p ops.length pc,.int .i64 most] W fun e w'=>e = .returned (.bool true)/\ja W w' (fun i=>Q i\/K i):=by
 obtain⟨N,hN⟩:∃ N,N=ops.length:=⟨_,rfl⟩;have HN:=jb hN;rw[<-hN] at hn ⊢;have D:=h.lists.jar;have cb:Hid (∀ i,(Q i\/K i)->B<=i):=fun i t=>t.elim (fun t=>(h.side.old t).1) (h.ge i);have T:=jb az;have b7:=jb ay;have bf:=jb a6;have HM:=jb hm;have f:=jb hn;have bz:Hid (qi E B W wb (.slice (some ⟨v,0,none⟩) 1 cs) sd 0 k 0 0 0 Q K W):=qi.same h H (ja.refl _ _);have bb:=jb hk;clear h H hk ay az a6 hn hm hN;go_enter func17,ntmps17;go_wp2_with fail;clear D
 go_loopw [8,9,10,11,12] (fun t8 _ _ _ _ wr=>∃ i:Nat,t8 = .int .i64 i/\i<=N/\qi E B W wb (.slice (some ⟨v,0,none⟩) 1 cs) sd i (k+100000*i) (4*i) (4*i) i Q K wr) (fun t8 _ _ _ _ _=>N-(intOf t8).toNat)
 case atStart=>exact⟨0,rfl,zU _,bz.out⟩
 case round =>
  obtain⟨i,rfl,bs,x⟩:=hrel;have b6:=jb x;obtain⟨s1,d3,k1,ab,ac,aa,Q1,K1,hW,H,a1,a2,a3,a4,G,hQ,hK⟩:=x;have D:=hW.lists.jar;have qs:=G.cell b7.out (fun t=>t.elim T.out.1 T.out.2);have HW:=jb hW;have HF:=jb H;have c9:=jb G;have HQ:=jb hQ;have HK:=jb hK;have A:Hid (k1<=k+100000*i/\ab<=4*i/\ac<=4*i/\aa<=i):=(show _/\_ from⟨a1,a2,a3,a4⟩);rcases ZJ i N with br|d2
  ·have bt:(i:Int)<(N:Int):=by omega
   have d0:IntKind.i64.wrap ((i:Int)+1)=(i:Int)+1:=zE (by have:=f.out;omega) (by have:=f.out;omega);have b0:i<ops.length:=by rw[<-HN.out];exact br
   obtain⟨b,o,hp,a7⟩:=bf.out i b0;subst hp;have d:=a7.keep G cb.out;clear a7;generalize ops[i]=X at d;obtain⟨m,XN,cv,key,til,bv,l,wh⟩:=X;have c0:=d.c0;have S:=d.c1;have R:=d.c2;have O:=d.c3;have M:=d.c4;have L:=d.c5;have J:=d.c6;simp only at c0 S R O M L J;have b8:=jb d;have z:=jb (HW.out.sized HF.out);have b9:Hid (qi E B W wb (.slice (some ⟨v,0,none⟩) 1 cs) sd (i+1) (k+100000*(i+1)) (4*(i+1)) (4*(i+1)) (i+1) Q K wr):=b6.out.mono (by omega) (by omega) (by omega) (by omega) (by omega);clear b0 d a1 a2 a3 a4 G hQ hK hW H;by_cases hgt:most<m
   ·clear S R O M L J
    go_wp2;exact⟨⟨i+1,by simp,by omega,b9.out⟩,by simp[intOf];omega⟩
   ·have c8:Hid (m<=10):=jb (by have:=HM.out;omega)
    have ba:Hid (∀ g,ja wr g (fun _=>False)->(m=1\/m=9\/m=10->j3 s1.files<=6000)->Calls prog 53 #[.pointer (some ⟨wb,0,none⟩),.pointer (some ⟨sd,0,none⟩),.agg #[.int .i64 m,.int .i64 XN,cv,jd key,jd til,bv,.bool wh]] g (Jk E B g wb (.slice (some ⟨v,0,none⟩) 1 cs) sd i k1 ab ac aa Q1 K1)):=fun g kw hv=>by
     have ha:=A.out;have hb:=f.out;have hc:=bb.out;have ho:=b8.out.keep kw (fun _ t=>t.elim);exact jao ⟨HW.out.same kw,HF.out,by omega,by omega,by omega,ho.chs,ho.low,ho.len,ho.sml,ho.num⟩ c8.out hv
    have cp:=b8;obtain⟨Z,hZ⟩:∃ Z,Z=2*j3 s1.files:=⟨_,rfl⟩;have HZ:=jb hZ;rw[<-hZ] at z
    have bd:Hid (∀ g Y V,ja wr g (fun _=>False)->qi E B g wb (.slice (some ⟨v,0,none⟩) 1 cs) sd (i+1) (k1+100000) (ab+4) (ac+4) (aa+1) Q1 K1 Y->ja Y V (fun _=>False)->qi E B W wb (.slice (some ⟨v,0,none⟩) 1 cs) sd (i+1) (k+100000*(i+1)) (4*(i+1)) (4*(i+1)) (i+1) Q K V):=fun g Y V kw I k3=>by
     have ha:=A.out;exact(qi.trans c9.out HQ.out HK.out (((I.back kw).mono (by omega) (by omega) (by omega) (by omega) (by omega)).next k3))
    clear hZ;cases wh
    all_goals
     go_wp2_with fail;refine z.out.mono ?_;rintro e g ⟨rfl,c⟩;have c0:=c.cell c0 id;have S:=c.cell S id;have R:=c.cell R id;have O:=c.cell O id;have M:=c.cell M id;have L:=c.cell L id;have J:=c.cell J id;have u:=jb c;have al:=jb (b9.out.next c);clear D qs c;rcases ZJ 12000 Z with F|F
     ·have ae:(12000:Int)<(Z:Int):=by omega
      by_cases e1:m=1
      ·have bw:(m==1)=true:=by simp[e1]
       clear S R O M L J e1 F;go_wp2;exact⟨⟨i+1,by simp,by omega,al.out⟩,by simp[intOf];omega⟩
      ·have bw:(m==1)=false:=by simp[e1]
       by_cases e9:m=9
       ·have bu:(m==9)=true:=by simp[e9]
        clear S R O M L J e1 e9 F;go_wp2;exact⟨⟨i+1,by simp,by omega,al.out⟩,by simp[intOf];omega⟩
       ·have bu:(m==9)=false:=by simp[e9]
        by_cases e10:10<=m
        ·clear S R O M L J F
         go_wp2;exact⟨⟨i+1,by simp,by omega,al.out⟩,by simp[intOf];omega⟩
        ·have ak:=jb (ba.out g u.out (fun t=>by omega))
         clear F;go_wp2_with fail;refine ak.out.mono ?_;rintro e Y ⟨rfl,I⟩;have H2:=jb I;obtain⟨s2,b5,k2,q,r,n,Q2,K2,y,ag,b1,b2,b3,b4,ad,ah,ai⟩:=I;have am:=jb y.lists;have C:Hid (q<1000000000/\r<1000000000/\n<1000000000):=(show _/\_ from by have:=A.out;have:=f.out;omega);clear y ag b1 b2 b3 b4 ad ah ai c0 S R O M L J;go_wp2_with fail;refine(oq am.out C.out).mono ?_;rintro e V ⟨rfl,k3⟩;go_wp2;exact⟨⟨i+1,by simp,by omega,bd.out g Y V u.out H2.out k3⟩,by simp[intOf];omega⟩
     ·have ae:¬(12000:Int)<(Z:Int):=by omega
      have ak:=jb (ba.out g u.out (fun t=>by have:=HZ.out;omega));clear F;go_wp2_with fail;refine ak.out.mono ?_;rintro e Y ⟨rfl,I⟩;have H2:=jb I;obtain⟨s2,b5,k2,q,r,n,Q2,K2,y,ag,b1,b2,b3,b4,ad,ah,ai⟩:=I;have am:=jb y.lists;have C:Hid (q<1000000000/\r<1000000000/\n<1000000000):=(show _/\_ from by have:=A.out;have:=f.out;omega);clear y ag b1 b2 b3 b4 ad ah ai c0 S R O M L J;go_wp2_with fail;refine(oq am.out C.out).mono ?_;rintro e V ⟨rfl,k3⟩;go_wp2;exact⟨⟨i+1,by simp,by omega,bd.out g Y V u.out H2.out k3⟩,by simp[intOf];omega⟩
  ·have bt:¬(i:Int)<(N:Int):=by omega
   have U:=jb bs;obtain⟨wA,rfl⟩:∃ wA,wA=wr:=⟨_,rfl⟩;clear D qs hW H G hQ hK a1 a2 a3 a4;go_wp2_with fail
   go_loopw [13,14] (fun t13 _ wr=>∃ j:Nat,t13 = .int .i64 j/\j<=1/\qi E B W wb (.slice (some ⟨v,0,none⟩) 1 cs) sd (i+4*j) (k+100000*i+400000*j) (4*i+16*j) (4*i+16*j) (i+4*j) Q K wr) (fun t13 _ _=>1-(intOf t13).toNat)
   case atStart=>exact⟨0,rfl,zU _,b6.out⟩
   case round =>
    obtain⟨j,rfl,d1,x⟩:=hrel;have be:=jb x;obtain⟨s2,b5,k2,q,r,n,Q2,K2,hW,H,a1,a2,a3,a4,G,hQ,hK⟩:=x;have D:=hW.lists.jar;have qs:=G.cell b7.out (fun t=>t.elim T.out.1 T.out.2);have aj:=jb hW;have bc:=jb H;have a8:=jb G;have c7:=jb hQ;have ca:=jb hK;have A2:Hid (k2<=k+100000*i+400000*j/\q<=4*i+16*j/\r<=4*i+16*j/\n<=i+4*j):=(show _/\_ from⟨a1,a2,a3,a4⟩);clear hW H G hQ hK a1 a2 a3 a4;rcases ZJ j 1 with hj|hj
    ·have af:j=0:=by omega
     subst af;have z:=jb (aj.out.sized bc.out);obtain⟨Z,hZ⟩:∃ Z,Z=2*j3 s2.files:=⟨_,rfl⟩;rw[<-hZ] at z;clear hZ;go_wp2_with fail;refine z.out.mono ?_;rintro e g ⟨rfl,c⟩;have D:=c.cell D id;have qs:=c.cell qs id;rcases ZJ Z 12000 with F|F
     ·have ae:(Z:Int)<(12000:Int):=by omega
      have cc:=jb (Wo (aj.out.same c) bc.out (by have:=U.out;have:=f.out;omega) (by have:=A2.out;have:=U.out;have:=f.out;have:=bb.out;omega) (by have:=A2.out;have:=U.out;have:=f.out;omega));have u:=jb c;clear F c;go_wp2_with fail;refine cc.out.mono ?_;rintro e Y ⟨rfl,I⟩;clear D qs;go_wp2;refine⟨⟨1,rfl,by omega,?_⟩,by simp[intOf]⟩;have ha:=A2.out;exact qi.trans a8.out c7.out ca.out ((I.back u.out).mono (by omega) (by omega) (by omega) (by omega) (by omega))
     ·have ae:¬(Z:Int)<(12000:Int):=by omega
      have bx:=jb (be.out.next c);clear F c D qs;go_wp2;exact⟨⟨1,rfl,by omega,bx.out.mono (by omega) (by omega) (by omega) (by omega) (by omega)⟩,by simp[intOf]⟩
    ·have af:j=1:=by omega
     subst af;have C:Hid (q<1000000000/\r<1000000000/\n<1000000000):=(show _/\_ from by have:=A2.out;have:=f.out;have:=U.out;omega);clear D qs;go_wp2_with fail;refine(oq aj.out.lists C.out).mono ?_;rintro e V ⟨rfl,k3⟩;go_wp2;go_ret;exact⟨rfl,a8.out.trans k3 (fun _ _ t=>t.elim)⟩
theorem R8{ρ:Nat->jz}(D:DW E B w ρ d V k)(t:k<540000000000){b:List UInt8}(m:(nm,b)∈V)(s:nm.length<1000):Calls prog 46 #[.pointer (some ⟨d,0,none⟩),jd nm] w fun e w'=>∃ p c,e = .returned (.tuple #[.slice p b.length c,.bool true])/\w'.ownsRow w.heap.size 5 1 (.slice p b.length c) b.length (b.map j6)/\ja w w' (fun _=>False):=by
 obtain⟨S,D,u,n,o⟩:=D;refine(Fp nm D.rep (o.small (by omega)) (by omega)).mono ?_;obtain⟨f,a,i,r,q⟩:=n.get m;rintro e w' ⟨j,⟨h,_⟩|⟨v,a',p,c,h,g,rfl,l⟩⟩
 ·rw[i] at h
  cases h
 ·rw[i] at h
  cases h;rw[r] at g;cases g;subst q;exact⟨p,c,rfl,l,j⟩
theorem jd1{ρ:Nat->jz}(D:DW E B w ρ d V k)(n:k<540000000000)(g:∀ b,(nm,b)∉V)(m:nm.length<1000):Calls prog 46 #[.pointer (some ⟨d,0,none⟩),jd nm] w fun e w'=>e = .returned (.tuple #[.slice none 0 0,.bool false])/\ja w w' (fun _=>False):=by
 obtain⟨S,D,q,i,j⟩:=D;refine(Fp nm D.rep (j.small (by omega)) (by omega)).mono ?_;rintro e w' ⟨f,⟨h,rfl⟩|⟨r,a',p,c,h,o,rfl,l⟩⟩
 ·exact⟨rfl,f⟩
 ·rw[i.none g] at h
  cases h
theorem Ky{L:List UInt8}(h:Bytes w (.slice p L.length c) L)(n:8<L.length):∃ g o,p=some ⟨g,o,none⟩/\L.length<=c/\Bytes w (.slice (some ⟨g,o+8,none⟩) (L.length-8) (c-8)) (L.drop 8):=by
 obtain⟨m,r,e,k,q,i,f⟩:=h;injection e with e1 e2 e3;subst e1;subst e3
 cases p with
 | none=>have:=i rfl;omega
 | some ad =>
  obtain⟨b,d⟩:=f ad rfl;obtain⟨g,o,l⟩:=ad;simp only at b;subst b;refine⟨g,o,rfl,k,some ⟨g,o+8,none⟩,c-8,by rw[ZU],by rw[ZU];omega,by omega,fun e=>(by cases e),fun ad e=>?_⟩;cases e;refine⟨rfl,fun j u hu=>?_⟩;rw[ZV] at hu;have:=d (8+j) u hu;rw[Ju] at this ⊢;rw[show o+8+j=o+(8+j) by omega];exact this
def es1:List Rf.Ch:=[⟨[97],[49],false⟩]
def jed:List UInt8:=[0,0,0,0,0,0,0,2,0,0,0,0,0,0,0,0,0,0,0,0,0,0,0,1,0,0,0,0,0,0,0,0,0,0]
def jec:List UInt8:=[0,0,0,0,0,0,0,1,1,1,1,97,1,49]
theorem Gg(l:List UInt8):(Rf.frame l).drop 8=l/\(Rf.frame l).length=l.length+8:=by
 unfold Rf.frame;constructor
 ·rw[xG (by simp[Rf.ji])]
  rw[xH (by simp[Rf.ji])];rfl
 ·simp only[ZY,Rf.ji];omega
theorem Vw:Rf.Man.first.bytes.drop 8=jed/\Rf.Man.first.bytes.length=42:=by
 have e:Rf.Man.first.bytes=Rf.frame jed:=rfl;rw[e];exact Gg jed
theorem Vx:(Rf.jl 0 [es1]).drop 8=jec/\(Rf.jl 0 [es1]).length=22:=by
 have e:Rf.jl 0 [es1]=Rf.frame jec:=by
  have h:Rf.jl 0 [es1]=Rf.jt 1 es1++Rf.jl 1 []:=by simp[Rf.jl,Rf.jt]
  rw[h];have b:Rf.jl 1 []=[]:=rfl;rw[b,ZC];rfl
 rw[e];exact Gg jec
theorem Oe:jx 1=[108,111,103,45,49]:=by rw[jx,Rf.j4,dif_pos (by omega)];rfl
theorem jby:jq 2=[114,117,110,45,50]:=by rw[jq,Rf.j4,dif_pos (by omega)];rfl
theorem jgh:jx 3=[108,111,103,45,51]:=by rw[jx,Rf.j4,dif_pos (by omega)];rfl
theorem jfs:(jx 1,Rf.jl 0 [es1])∈(Rf.St.first.write es1).files:=by
 unfold Rf.St.files;exact xI _ xJ
theorem jgy:Iw (Rf.xh (Rf.St.first.write es1).all [97])=([49],true):=by decide
theorem Uu(w:World):Chs (w.alloc (.cells #[.string ⟨#[97]⟩,.string ⟨#[49]⟩,.bool false] 88)) (.slice (some ⟨w.heap.size,0,none⟩) 1 1) es1:=by
 refine⟨_,_,rfl,by decide,by decide,fun e=>(by cases e),fun ad e=>?_⟩;cases e;refine⟨rfl,fun j u hu=>?_⟩;rw[add_zero,zA (je w _)];have e:(#[Value.string ⟨#[97]⟩,.string ⟨#[49]⟩,.bool false]:Array Value)=(jg es1).toArray:=rfl;rw[e];simpa using hu
theorem Wm(H:Env E B W)(hB:B<=W.heap.size):Calls prog 14 #[] W fun e w'=>e = .returned (.bool true)/\ja W w' (fun _=>False):=by
 have HE:=jb H;have HB:=jb hB;clear H hB;go_enter func14,ntmps14;go_wp2_with fail;refine(jbu HE.out HB.out).mono ?_;rintro e w1 ⟨d,ρ,rfl,D,k1,hρ⟩;have HD:=jb D;have x:=jb k1;have HR:=jb hρ;clear D k1 hρ;go_wp2_with fail;refine(tz HD.out (HE.out.same x.out) (by omega)).mono ?_;rintro e X ⟨b,F,rfl,hb,hO,k2,hF⟩
 have a8:Hid (Calls prog 46 #[.pointer (some ⟨d,0,none⟩),.string ⟨#[109,97,110,105,102,101,115,116]⟩] X fun e w'=>∃ p c,e = .returned (.tuple #[.slice p Rf.Man.first.bytes.length c,.bool true])/\w'.ownsRow X.heap.size 5 1 (.slice p Rf.Man.first.bytes.length c) Rf.Man.first.bytes.length (Rf.Man.first.bytes.map j6)/\ja X w' (fun _=>False)):=by
  obtain⟨ρ2,D2,_⟩:=hO.zw;exact R8 D2 (by omega) (nm:=jw) (b:=Rf.Man.first.bytes) (xi.2 (.inl rfl)) (by decide)
 have T:=jb hO;have HF:=jb hF;have M:=jb k2;have bc:=jb hb;clear hO hF k2 hb;go_wp2_with fail;refine a8.out.mono ?_;rintro e o ⟨p3,c3,rfl,G,k3⟩;have y:=jb G;have m:=jb k3;have ab:Hid (Rf.Man.first.bytes.length=42):=Vw.2;rw[ab.out];clear G k3;obtain⟨z,l⟩:∃ z,z=o.alloc (.cells #[.string ⟨#[97]⟩,.string ⟨#[49]⟩,.bool false] 88):=⟨_,rfl⟩;have Z:ja o z (fun _=>False):=by rw[l];exact ja.alloc _ _ _
 have ae:Hid (Chs z (.slice (some ⟨o.heap.size,0,none⟩) 1 1) es1):=by rw[l];exact Uu o
 have a9:=jb ((T.out.same m.out).same Z)
 have a5:Hid (Calls prog 24 #[.pointer (some ⟨b,0,none⟩),.slice (some ⟨o.heap.size,0,none⟩) 1 1] z fun e w'=>e = .returned (.int .i64 0)/\Qu E B z d b (Rf.St.first.write es1) (1000+20000) F w'):=by
  refine K9 a9.out (by omega) _ es1 (by decide) ae.out (fun p n c e f=>?_) (by decide) (by decide) (by
   have A:=Rf.Za (b:=es1) (by decide) (Rf.St.first.last+1)
   have S:j3 Rf.St.first.files<=1000:=by decide
   omega)
  cases e;have A:=(T.out.old f).2;have S:=m.out.size;have e2:(⟨o.heap.size,0,none⟩:Addr).block=o.heap.size:=rfl;rw[e2] at A;omega
 have a6:=jb l;have v:=jb Z;clear l Z;go_wp2_with fail;rw[<-a6.out];refine a5.out.mono ?_;rintro e V ⟨rfl,F5,q,k5,J⟩
 have a7:Hid (Calls prog 46 #[.pointer (some ⟨d,0,none⟩),.string ⟨#[108,111,103,45,49]⟩] V fun e w'=>∃ p c,e = .returned (.tuple #[.slice p (Rf.jl 0 [es1]).length c,.bool true])/\w'.ownsRow V.heap.size 5 1 (.slice p (Rf.jl 0 [es1]).length c) (Rf.jl 0 [es1]).length ((Rf.jl 0 [es1]).map j6)/\ja V w' (fun _=>False)):=by
  obtain⟨ρ5,D5,_⟩:=q.zw;have h:=R8 D5 (by omega) jfs (by rw[Oe];decide);rw[Oe] at h;exact h
 have L:=jb q;have u:=jb k5;have N:=jb J;clear q J k5;go_wp2_with fail;refine a7.out.mono ?_;rintro e w6 ⟨p6,c6,rfl,C,Y⟩;have O:=jb C;have s:=jb Y;have aa:Hid ((Rf.jl 0 [es1]).length=22):=Vx.2;rw[aa.out]
 have ad:Hid (Calls prog 33 #[.pointer (some ⟨b,0,none⟩),.string ⟨#[97]⟩] w6 fun e w'=>e = .returned (.tuple #[jd [49],.bool true,.int .i64 0])/\Own E B w' d b (Rf.St.first.write es1) (1000+20000) F5/\ja w6 w' F5):=by
  have h:=je5 (L.out.same Y) (by omega) [97];rw[jgy] at h;exact h
 clear C Y;go_wp2_with fail;refine ad.out.mono ?_;rintro e U ⟨rfl,_,R⟩;have s1:=x.out.size;have s2:=M.out.size;have s3:=m.out.size;have s4:=v.out.size;have s5:=u.out.size;have s6:=s.out.size
 have k:Bytes U (.slice p3 Rf.Man.first.bytes.length c3) Rf.Man.first.bytes:=by
  have r4:=v.out.row y.out (fun _ _ t=>t);have r5:=u.out.row r4 (fun g hg f=>by have A:=(y.out.lt g hg).1;have S:=(T.out.old f).2;omega);have r6:=s.out.row r5 (fun _ _ t=>t);refine xj (R.row r6 (fun g hg f=>?_));have A:=y.out.lt g hg;rcases N.out g f with f|f
  ·have S:=(T.out.old f).2;omega
  ·omega
 have j:Bytes U (.slice p6 (Rf.jl 0 [es1]).length c6) (Rf.jl 0 [es1]):=by
  refine xj (R.row O.out (fun g hg f=>?_));have A:=(O.out.lt g hg).1;have S:=(L.out.old f).2;omega
 have r:∀ i,F i->W.heap.size<=i:=fun i f=>by
  rcases HF.out i f with t|t
  ·exact HR.out i t
  ·omega
 have I:ja W U (fun _=>False):=by
  refine((((((x.out.trans M.out (fun i hi t=>?_)).tt m.out).tt v.out).trans u.out (fun i hi t=>?_)).tt s.out).trans R (fun i hi t=>?_))
  ·have:=HR.out i t;omega
  ·have:=r i t;omega
  ·rcases N.out i t with t|t
   ·have:=r i t;omega
   ·omega
 have ac:=jb I;clear I r s1 s2 s3 s4 s5 s6 R;obtain⟨g1,o1,rfl,a4,k⟩:=Ky k (by rw[Vw.2];omega);obtain⟨g2,o2,rfl,a3,j⟩:=Ky j (by rw[Vx.2];omega);rw[Vw.1,Vw.2] at k;rw[Vx.1,Vx.2] at j;rw[Vw.2] at a4;rw[Vx.2] at a3;have a2:=k.string;have a1:=j.string;unfold jed at a2;unfold jec at a1;have x1:¬c3=8:=by omega
 have x2:¬c6=8:=by omega
 clear k j;go_wp2;go_ret;exact⟨rfl,ac.out⟩
theorem Tryz.jce:(prog.info? 31).map (fun i=>(i.zero,i.size,i.bytes))=some (some (.pointer none),1,8):=by kernel_rfl
theorem U0{m j f:World}{x y:Nat}{F G:Nat->Prop}{base:Nat}(O:B<=W.heap.size)(I:wb=W.heap.size)(b:j.heap[wb]?=some (.cells #[.slice none 0 0,.slice none 0 0,.slice none 0 0,.slice none 0 0] 29 (0,0)))(R:wb<m.heap.size)(n:ik E B j sd d x y s false k F G)(C:∀ i,F i->m.heap.size<=i)(A:∀ i,G i->m.heap.size<=i)(M:m.heap.size<=sd)(v:ja j f (fun _=>False))(o:f.ownsRow base 31 1 (.slice p 1 c) 1 [.pointer (some ⟨sd,0,none⟩)])(N:j.heap.size<=base):∃ sl,p=some ⟨sl,0,none⟩/\Wd E B (f.setCell ⟨wb,0,none⟩ (.slice p 1 c)) wb (.slice (some ⟨sl,0,none⟩) 1 c) sd s false k 0 0 0 (fun i=>F i\/G i\/i=sd) (fun i=>i=wb)/\(f.setCell ⟨wb,0,none⟩ (.slice p 1 c)).cell? ⟨sl,0,none⟩=some (.pointer (some ⟨sd,0,none⟩))/\¬(F sl\/G sl\/sl=sd)/\¬sl=wb:=by
 obtain⟨sl,rfl⟩:=oh o xD;have S:=(o.lt sl rfl);have u:=ja.setCell f ⟨wb,0,none⟩ (.slice (some ⟨sl,0,none⟩) 1 c);have J:=zC b;have z:=o.cells (g:=sl) rfl 0 (.pointer (some ⟨sd,0,none⟩)) rfl;rw[add_zero] at z;have l:¬sl=wb:=by omega
 have L:=zC n.row
 have r:∀ i,(F i\/G i\/i=sd)->i≠wb/\i<j.heap.size:=fun i t=>by
  rcases t with t|t|t
  ·have D:=C i t
   exact⟨by omega,(n.x.old t).2⟩
  ·have D:=A i t
   exact⟨by omega,n.y.old t⟩
  ·omega
 refine⟨sl,rfl,⟨⟨d,x,y,F,G,(n.keep v (fun _ _ t=>t.elim)).keep u (fun i _ e=>⟨by have H:i=wb:=e;omega,fun q=>(r i q).1 e⟩),fun i=>Iff.rfl⟩,⟨.slice none 0 0,.slice none 0 0,.slice none 0 0,fun _=>False,⟨(jc (v.same b id) _).trans rfl,CL.nil _ _ _ _,CL.nil _ _ _ _,CL.nil _ _ _ _,⟨rfl,rfl⟩,⟨id,fun g e=>(by cases e),fun g e=>(by cases e),fun g e=>(by cases e)⟩,fun g e=>(by cases e),fun g e=>(by cases e),fun g e=>(by cases e),fun g t=>t.elim,fun g=>⟨fun e=> .inr (.inl e),fun t=>?_⟩⟩⟩,fun i q e=>(r i q).1 e,fun i e=>by have H:i=wb:=e;omega⟩,u.cell z (fun e=>l e),fun q=>?_,l⟩
 ·rcases t with t|t|t|t|t
  ·exact t.elim
  ·exact t
  ·cases t
  ·cases t
  ·cases t
 ·have:=(r sl q).2
  omega
theorem K8.keep{T:Nat->Prop}(h:K8 W B p ops)(k:ja W W' T)(c:∀ i,T i->B<=i):K8 W' B p ops:=fun i hi=>by
 obtain⟨b,o,e,d⟩:=h i hi
 exact⟨b,o,e,d.keep k c⟩
theorem Ni(H:Env E W.heap.size W)(j:K8 W W.heap.size p ops)(hn:ops.length<=1048576):Calls prog 3 #[.slice p ops.length pc] W fun e w'=>e = .returned (.bool true)/\ja W w' (fun _=>False):=by
 obtain⟨j0,hj,al,ak,aj⟩:=info_parts Tryz.jce;obtain⟨B,hB⟩:∃ B,B=W.heap.size:=⟨_,rfl⟩;rw[<-hB] at H j;obtain⟨M,q⟩:∃ M,M=W.alloc (.cells #[.slice none 0 0,.slice none 0 0,.slice none 0 0,.slice none 0 0] 29):=⟨_,rfl⟩;obtain⟨wb,I⟩:∃ wb,wb=W.heap.size:=⟨_,rfl⟩;have k0:ja W M (fun _=>False):=by rw[q];exact ja.alloc _ _ _
 have l:M.heap[wb]?=some (.cells #[.slice none 0 0,.slice none 0 0,.slice none 0 0,.slice none 0 0] 29 (0,0)):=by rw[q,I];exact je _ _
 have HE:=jb (H.same k0);have HB:=jb hB;have aq:=jb q;have v:=jb I;have b0:=jb k0;have a2:=jb l;have av:=jb j;have HN:=jb hn;have Z:Hid (B<=M.heap.size):=jb (by have:=k0.size;omega);obtain⟨N,hN⟩:∃ N,N=ops.length:=⟨_,rfl⟩;have aw:=jb hN;rw[<-hN];clear hB q I k0 l j hn H hN;go_enter func3,ntmps3
 go_upto_region 2 with fail
 rw[<-aq.out,<-v.out];go_wp2_with fail;refine(Wm HE.out Z.out).mono ?_;rintro e w1 ⟨rfl,k1⟩;have a5:=jb (HE.out.same k1);have Y:Hid (B<=w1.heap.size):=ZF Z.out k1.size;have az:=jb k1;clear k1;obtain⟨n,hw2⟩:∃ n,n=w1:=⟨_,rfl⟩;have k2:ja w1 n (fun _=>False):=by rw[hw2];exact ja.refl _ _
 rw[<-hw2];clear hw2;have a4:=jb (a5.out.same k2);have L:Hid (B<=n.heap.size):=ZF Y.out k2.size;have ay:=jb k2;clear k2;go_wp2_with fail;refine(jbu a4.out L.out).mono ?_;rintro e w3 ⟨d,ρ,rfl,D,k3,hρ⟩;have a6:=jb (Vs D (a4.out.same k3) (by omega));have a3:=jb k3;have a0:=jb hρ;clear D k3 hρ;go_wp2_with fail;refine a6.out.mono ?_;rintro e f ⟨sd,x,y,F,G,rfl,hS,k5,hF,hG,hs⟩;have c:ja M n (fun _=>False):=az.out.tt ay.out;have A:wb<n.heap.size:=zC (c.same a2.out id);have k:ja n f (fun i=>n.heap.size<=i):=(a3.out.up).trans k5 (fun i _ t=>a0.out i t);have b:=k.same (c.same a2.out id) (by omega);have s3:=a3.out.size;have HF:Hid (∀ i,F i->n.heap.size<=i):=fun i t=>(hF i t).elim (fun t=>a0.out i t) (fun t=>by omega);have HG:Hid (∀ i,G i->n.heap.size<=i):=fun i t=>by have:=hG i t;omega
 have X:Hid (n.heap.size<=sd):=ZF s3 hs;have HS:=jb hS;have a1:=jb b;have a7:=jb k;have a8:=jb c;have ap:=jb A;have q0:=zA (o:=0) b;simp at q0;have m:(f.alloc (.cells #[.pointer (some ⟨sd,0,none⟩)] 31)).ownsRow f.heap.size 31 1 (.slice none 0 0) 0 []:=zS _ _ _ _;have C:∀ u∈[Value.pointer (some ⟨sd,0,none⟩)],u.oneCell'=true:=fun u hu=>by rw[ZE.1 hu];rfl
 have ar:Hid (∀ W6,(f.alloc (.cells #[.pointer (some ⟨sd,0,none⟩)] 31)).grownBy W6 (Value.slice none 0 0).ownBlock->W6.cell? ⟨wb,0,none⟩=some (.slice none 0 0)/\W6.frozen? ⟨wb,0,none⟩=false/\ja f W6 (fun _=>False)):=fun W6 hg=>by
  have hk:ja f W6 (fun _=>False):=(ja.alloc f (.cells #[.pointer (some ⟨sd,0,none⟩)] 31) (fun _=>False)).grow hg (fun i e _=>by cases e);have hr:=hk.same a1.out id;have hc:=zA (o:=0) hr;exact⟨by simpa using hc,zB hr,hk⟩
 have ao:Hid (0+1<=maxLen):=jb (by decide);have an:Hid ((0+1)*8<=140737488355328):=jb (by decide);have V:f.heap.size<=(f.alloc (.cells #[.pointer (some ⟨sd,0,none⟩)] 31)).heap.size:=(ja.alloc f _ (fun _=>False)).size;clear hS k5 hF hG hs c A k b s3
 go_upto_region 7 with(first|(at_builtin;refine jk _ rfl (.tmp 21) (.tmp 23) 24 rfl f.heap.size 31 j0 (.pointer none) 1 8 underlying24 hj al ak aj rfl xD _ _ _ rfl m ⟨f.heap.size,0,none⟩ 1 1 [.pointer (some ⟨sd,0,none⟩)] rfl rfl (cell_one_new _ _ _) C ao.out an.out V ?_;intro p6 c6 w6 O U am;obtain⟨r2,r3,r4⟩:=ar.out w6 U))
 obtain⟨sl,rfl,s,r,S,R⟩:=U0 (Nat.le_of_eq HB.out) v.out a1.out ap.out HS.out HF.out HG.out X.out r4 O (xA _);obtain⟨z,g⟩:∃ z,z=w6.setCell ⟨wb,0,none⟩ (.slice (some ⟨sl,0,none⟩) (0+1) c6):=⟨_,rfl⟩;have T:ja w6 z (fun i=>i=wb):=by rw[g];exact ja.setCell _ _ _
 rw[<-g];have s:Wd E B z wb (.slice (some ⟨sl,0,none⟩) 1 c6) sd Rf.St.first false (0+1000) 0 0 0 (fun i=>F i\/G i\/i=sd) (fun i=>i=wb):=by rw[g];exact s
 have r:z.cell? ⟨sl,0,none⟩=some (.pointer (some ⟨sd,0,none⟩)):=by rw[g];exact r
 have J:ja W z (fun i=>B<=i):=by
  have h1:=HB.out;have h2:=v.out;have h3:=L.out;refine(((((b0.out.up).trans a8.out (fun _ _ t=>t.elim)).trans a7.out (fun i _ t=>?_)).trans r4 (fun _ _ t=>t.elim)).trans T (fun i _ e=>?_))
  ·have t':n.heap.size<=i:=t
   show B<=i;omega
  ·have e':i=wb:=e
   show B<=i;omega
 have au:Hid (Calls prog 17 #[.pointer (some ⟨wb,0,none⟩),.slice p N pc,.int .i64 8] z fun e w'=>e = .returned (.bool true)/\ja z w' (fun i=>(F i\/G i\/i=sd)\/i=wb)):=by
  rw[aw.out];exact jbh s Fits.first (by omega) r ⟨S,R⟩ (av.out.keep J (fun _ t=>t)) HN.out (by omega)
 have ax:=jb J;clear g s r S R J O U am r2 r3 r4 m C V T q0;go_wp2_with fail;refine au.out.mono ?_;rintro e w8 ⟨rfl,k8⟩;go_wp2;go_ret;refine⟨rfl,(ax.out.trans k8 (fun i hi t=>?_)).mono (fun i hi t=>?_)⟩
 ·have h1:=HF.out i
  have h2:=HG.out i;have h3:=X.out;have h4:=L.out;have h5:=HB.out;have h6:=v.out;show B<=i;rcases t with(t|t|t)|t
  ·have:=h1 t;omega
  ·have:=h2 t;omega
  ·omega
  ·omega
 ·have t':B<=i:=t
  have:=HB.out;omega
end Go.Proofs.YtnipbplghijdmaaGreatDoor
