/-
  D: All Ops4.
-/
import Derived.Sort.OwnSorted
import Derived.Test.YtnipbplghijdmaaGreatDoorD07
import Derived.Test.YtnipbplghijdmaaGreatDoorD08
set_option maxRecDepth 100000
set_option maxHeartbeats 8000000
set_option linter.unusedVariables false
set_option linter.unusedSimpArgs false
namespace Go.Proofs.YtnipbplghijdmaaGreatDoor
open RowKit Maps WideShapes Go.Sort Go.Proofs.Tryz
variable {w:World} {d:Nat}
def jc.keys(S:jc):List Str:=(strKeys S.names).mergeSort leB
theorem Ww(x:Str):∀ u∈[encStr x],u.oneCell'=true:=by
 intro u b;simp at b;subst b;rfl
theorem Fi{ρ:Nat->j3}{S:jc}(R:Rep w ρ d S)(Z:Small S) :
 Calls prog 70 #[.pointer (some ⟨d,0,none⟩)] w fun e w'=>ja w w' (fun _=>False) /\
  ∃ p c,e = .returned (.slice p S.keys.length c)/\w'.ownsRow w.heap.size 9 1 (.slice p S.keys.length c) S.keys.length (S.keys.map encStr):=by
 obtain⟨C,sm,lv,hd,rn,rs,O,_⟩:=R.mem;have c0:=zA (o:=0) hd;simp at c0;clear hd;have hL:=R.z7;have hz:=Z.names;obtain⟨i0,hi,X,W,V⟩:=info_parts Tryz.Ax;go_enter func70,ntmps70
 go_wp2_with (first
  | (at_range;refine wpList_range_own _ rfl _ 98 rfl 9 146 law underlying98 _ C _ _ rfl O ?_;intro w0 L a8 b0)
  | go_in)
 go_frame
 go_loopw [3] (fun v wr=>∃(left:Lit->Bool) (t:Nat) (ss:List Str) (p:Option Addr) (c:Nat),wr.ranges prog 9 yi C w.heap.size (Maps.size S.names) S.names left t/\ss.length+t<=Maps.size S.names /\
  v = .slice p ss.length c/\wr.ownsRow w.heap.size 9 1 (.slice p ss.length c) ss.length (ss.map encStr)/\Collected S.names left ss/\ja w wr (fun _=>False))
  (fun _ wr=>wr.rangeLeft C w.heap.size)
 case atStart=>exact⟨_,_,[],none,0,L,by simp,rfl,ZL _ _ _ _,Collected.start _,(ja.grown a8).mono (fun _ _ h=>by simp at h)⟩
 case round =>
  obtain⟨left,t,ss,p,c,s,b3,rfl,b,hC,m⟩:=hrel
  go_wp2_with (first
   | (at_next;refine Y6 _ rfl _ rfl C w.heap.size _ _ _ _ rfl s hL ?_ ?_)
   | go_in)
  ·intro b4 a5
   have y:=hC.perm O law underlying9 a5;have j:ss.mergeSort leB=S.keys:=mergeSort_of_perm y;have r:ss.length=S.keys.length:=by rw[<-j];simp
   have HK:=jb j;have U:=jb r;clear j r;rcases b.2 with⟨M,h0⟩|⟨g,cap,b5,a0,A,T,h1,h2,h3,h4⟩
   ·have Y:ss=[]:=zT h0
    subst Y;cases M
    go_wp2_with (go_at_call 122;refine(Tryz.slices_Sort_string_none none 0 wr).mono ?_;rintro e w' ⟨rfl,rfl⟩)
    go_ret;have F:S.keys=[]:=zT (by rw[<-U.out];rfl);exact⟨m,none,0,by rw[F];rfl,by rw[F];exact ZL _ _ _ _⟩
   ·cases a0
    have hH:Holds encStr wr g 0 ss.toArray:=holds_of_block T (by simpa using h4);have a7:g<wr.heap.size:=zC T;have a9:=Tryz.slices_Sort_string g 0 c ss wr hH a7 (by omega)
    go_wp2_with (go_at_call 122;refine a9.mono ?_;rintro e w' ⟨rfl,nn,os,rfl⟩)
    go_ret;refine⟨m.grow (grownBy_sorted _) (fun k e hk=>?_),some ⟨g,0,none⟩,c,by rw[<-U.out];rfl,?_⟩
    ·have:=Option.some.inj e;omega
    ·rw[<-U.out]
     have hr:=ownsRow_sorted (n:=nn) (os:=os) (ss:=ss) (ts:=ss.mergeSort leB) (by simp) A T h1 h2 h3;rw[<-HK.out];exact hr
  ·intro x f' B N ay a4 fa b1 aa J a3 H a1 b2
   have az:w.heap.size<=wr.heap.size:=m.size;have D:=row_ne_iter b s;have u:B.ownsRow w.heap.size 9 1 (.slice p ss.length c) ss.length (ss.map encStr):=b.kept H (.inr D.symm);have E:ja w B (fun _=>False):=m.trans (ja.grown H) (fun i hi e=>(by have:=Option.some.inj e;omega));have aj:w.heap.size<=B.heap.size:=E.size;clear a1
   go_wp2_with (first
    | (at_builtin;refine jy _ rfl (.tmp 14) (.tmp 16) 40 rfl w.heap.size 9 i0 (.string ⟨#[]⟩) 1 16 underlying40 hi X W V rfl (by decide) _ ss.length (ss.map encStr) rfl (u.alloc _) ⟨B.heap.size,0,none⟩ 1 1 [encStr x] rfl rfl (J8 (je B _) rfl) (Ww _) (by unfold maxLen;omega) (by omega) (by simp;omega) ?_;intro p3 I w3 l G ac)
    | go_in)
   have a2:C<w.heap.size:=O.lt;have q:=(J.alloc (.cells #[encStr x] 9)).kept G (row_ne_low b a2) D;have ab:=hC.step a4 aa;have a6:ja w w3 (fun _=>False):=(E.more _).grow G (fun k e hk=>(by have:=(b.lt k e).1;omega));have f:(ss++[x]).length=ss.length+1:=by simp
   have z:w3.ownsRow w.heap.size 9 1 (.slice p3 (ss++[x]).length I) (ss++[x]).length ((ss++[x]).map encStr):=by rw[f];simpa using l
   have H3:=jb f;clear f l;go_wp2;go_roundw
   case rel=>exact⟨_,N,ss++[x],p3,I,q,by rw[H3.out];omega,by rw[H3.out],z,ab,a6⟩
   case measure=>rw[q.left_eq,s.left_eq];exact a3
theorem jc5{ρ:Nat->j3}{S:jc}(nm:Str)(p n:Int)(R:Rep w ρ d S)(g:S.bad=true) :
 Calls prog 176 #[.pointer (some ⟨d,0,none⟩),jf nm,.int .i64 p,.int .i64 n] w fun e w'=>e = .returned (.tuple #[.slice none 0 0,.int .i64 1])/\x7 w ρ w' ρ/\Rep w' ρ d (S.called false):=by
 go_enter func176,ntmps176
 go_wp2_with (go_at_call 102;refine(zv false R).mono ?_;rintro e f ⟨rfl,b,c⟩)
 go_ret2;exact⟨rfl,c,b⟩
theorem ja6{ρ:Nat->j3}{S:jc}(nm:Str)(p n:Int)(R:Rep w ρ d S)(k:nm.length<1099511627776)(u:S.bad=false)(f:S.at nm=none) :
 Calls prog 176 #[.pointer (some ⟨d,0,none⟩),jf nm,.int .i64 p,.int .i64 n] w fun e w'=>e = .returned (.tuple #[.slice none 0 0,.int .i64 2])/\x7 w ρ w' ρ/\Rep w' ρ d (S.called false):=by
 have b:=an k;have m:=jb f;clear f;go_enter func176,ntmps176
 go_wp2_with (first
  | (go_at_call 102;refine(zv false R).mono ?_;rintro e r ⟨rfl,g,q⟩;obtain⟨j,s,lv,c,t,rs,i,_⟩:=g.mem;have l:=zA (o:=0) c;simp at l;clear c)
  | (at_lookup;refine xf _ rfl _ _ rfl j _ _ rfl i _ _ rfl b (.pointer none) (congrArg fy m.out) ?_)
  | go_in)
 go_ret2;exact⟨rfl,q,g⟩
theorem jdo{ρ:Nat->j3}{S:jc}(R:Rep w ρ d S)(Z:Small S)(l:S.bad=false) :
 Calls prog 213 #[.pointer (some ⟨d,0,none⟩)] w fun e w'=>x7 w ρ w' ρ/\Rep w' ρ d (S.called false) /\
  ∃ p c,e = .returned (.tuple #[.slice p S.keys.length c,.int .i64 0])/\w'.ownsRow w.heap.size 9 1 (.slice p S.keys.length c) S.keys.length (S.keys.map encStr):=by
 go_enter func213,ntmps213;go_wp2_with fail;refine(zv false R).mono ?_;rintro e k ⟨rfl,f,g⟩;go_wp2_with fail;refine(Fi f (Z.called false)).mono ?_;rintro e j ⟨b,p,c,rfl,i⟩;go_wp2;go_ret2;exact⟨g.trans (x7.of b (fun _ _ h=>h.elim)),f.keep b (fun _ h=>h.elim),p,c,rfl,xd i g.keeps.size⟩
end Go.Proofs.YtnipbplghijdmaaGreatDoor
