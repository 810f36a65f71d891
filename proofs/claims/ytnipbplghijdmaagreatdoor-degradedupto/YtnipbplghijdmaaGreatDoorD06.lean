/-
  D: Ops3 PutRep.
-/
import Derived.Lib.SliceRun
import Derived.Test.YtnipbplghijdmaaGreatDoorD05
set_option maxRecDepth 100000
set_option maxHeartbeats 8000000
set_option linter.unusedVariables false
set_option linter.unusedSimpArgs false
namespace Go.Proofs.YtnipbplghijdmaaGreatDoor
open RowKit Maps WideShapes Go.Proofs.Tryz
variable {w:World} {d f:Nat}
def Reads(w:World)(v:Value)(l:List UInt8):Prop :=
 (v = .slice none 0 0/\l=[])\/∃ ad c,v = .slice (some ad) l.length c/\∀ j u,(l.map j5)[j]?=some u->w.cell? (ad.add j)=some u
theorem mg{base:Nat}{v:Value}{l:List UInt8}(h:w.ownsRow base 5 1 v l.length (l.map j5)):Reads w v l:=by
 have c:=h;rcases h.2 with⟨e,b⟩|⟨g,cap,d,e,_⟩
 ·exact .inl ⟨e,zT b⟩
 ·refine .inr ⟨⟨g,0,none⟩,cap,e,?_⟩
  exact c.cells (by rw[e];rfl)
theorem tz(w:World)(v:Value)(l:List UInt8)(D:l.length<1099511627776)(z:Reads w v l) :
 Calls prog 85 #[v] w fun e w'=>∃ p c,e = .returned (.slice p l.length c)/\w'.ownsRow w.heap.size 5 1 (.slice p l.length c) l.length (l.map j5)/\ja w w' (fun _=>False):=by
 obtain⟨y,A,m,i,g⟩:=info_parts Tryz.mn;have q:∀(w:World) (a:Option Addr) (n c n' c':Nat),(binOp .eql 84 (.slice a n c) (.slice none n' c')).run prog w = .ok (.bool a.isNone) w:=fun w a n c n' c'=>Lib.run_eql_slice_nil w _ _ a n c n' c' underlying84;rcases z with⟨rfl,rfl⟩|⟨t,c,rfl,B⟩
 ·go_enter func85,ntmps85
  go_wp2;go_ret;exact⟨none,0,rfl,ZL _ _ _ _,ja.refl _ _⟩
 ·have f:(w.alloc (.cells #[] 5)).ownsRow w.heap.size 5 1 (.slice (some ⟨w.heap.size,0,none⟩) 0 0) 0 []:=World.ownsRow_made w #[] 0 (zJ _) (zG _) rfl
  have r:∀ j u,(l.map j5)[j]?=some u->(w.alloc (.cells #[] 5)).cell? (t.add j)=some u:=fun j u hu=>(ja.alloc w _ (fun _=>False)).cell (B j u hu) id;go_enter func85,ntmps85
  go_wp2_with (first|(at_builtin;refine jy _ rfl (.tmp 5) (.tmp 6) 84 rfl w.heap.size 5 y (.int .u8 0) 1 1 underlying84 A m i g rfl (by decide) _ 0 [] rfl f t l.length c (l.map j5) rfl (by simp) r (dt _) (by unfold maxLen;omega) (by omega) (by simp) ?_;intro x s C b o d;simp only[xK,xL] at b d ⊢)|go_in)
  go_ret;refine⟨x,s,rfl,b,((ja.refl w _).more _).grow o (fun k e hk=>?_)⟩;have:=Option.some.inj e;simp only at this;omega
theorem Ro{ρ:Nat->j3}{S:jc}(nm:Str)(R:Rep w ρ d S)(Z:Small S)(z:nm.length<1099511627776) :
 Calls prog 46 #[.pointer (some ⟨d,0,none⟩),jf nm] w fun e w'=>ja w w' (fun _=>False) /\
  ((S.at nm=none/\e = .returned (.tuple #[.slice none 0 0,.bool false])) \/
   (∃ f a p c,S.at nm=some f/\S.files f=some a/\e = .returned (.tuple #[.slice p a.bytes.length c,.bool true])/\w'.ownsRow w.heap.size 5 1 (.slice p a.bytes.length c) a.bytes.length (a.bytes.map j5))):=by
 have b:=an z;have l:S.at nm=none\/∃ f,S.at nm=some f:=by cases S.at nm<;>simp
 obtain⟨n,E,lv,q,G,rs,m,_⟩:=R.mem;have B:=zA (o:=0) q;simp at B;clear q;rcases l with i|⟨f,i⟩
 ·have j:=jb i
  clear i;go_enter func46,ntmps46
  go_wp2_with (first
   | (at_lookup;refine xf _ rfl _ _ rfl n _ _ rfl m _ _ rfl b (.pointer none) (congrArg fy j.out) ?_)
   | go_in)
  go_ret2;exact⟨ja.refl _ _,.inl ⟨j.out,rfl⟩⟩
 ·obtain⟨a,t⟩:=R.at i
  have j:=jb i;have k:=jb t;clear i t;obtain⟨H,N,pv,r,s,I,L,F⟩:=R.files f a k.out;have y:=mg s;have x:=(Z.files f a k.out).1;have C:=zA (o:=0) r;simp at C;clear r;obtain⟨J,M,rfl⟩:=jl s;go_enter func46,ntmps46
  go_wp2_with (first
   | (at_lookup;refine xf _ rfl _ _ rfl n _ _ rfl m _ _ rfl b (.pointer (some ⟨f,0,none⟩)) (congrArg fy j.out) ?_)
   | (go_at_call 85;refine(tz w _ a.bytes x y).mono ?_;rintro e D ⟨u,A,rfl,g,v⟩)
   | go_in)
  go_ret2;exact⟨v,.inr ⟨f,a,u,A,j.out,k.out,rfl,g⟩⟩
def jz.put(a:jz)(src:List UInt8):jz:=if src=[] then a else⟨a.bytes++src,a.safe,a.late++[(a.bytes.length,src.length)]⟩
def Arg(w:World)(ρ:Nat->j3)(v:Value)(l:List UInt8):Prop :=
 (v = .slice none 0 0/\l=[])\/∃ ad c,v = .slice (some ad) l.length c/\l.length<=c/\ρ ad.block = .none/\∀ j u,(l.map j5)[j]?=some u->w.cell? (ad.add j)=some u
theorem Kq{S:jc}{a:jz}(h:S.files f=some a):S.withFile f a=S:=by
 have e:(fun i=>if i=f then some a else S.files i)=S.files:=by
  funext i
  split
  ·rename_i e;rw[e,h]
  ·rfl
 unfold jc.withFile;rw[e]
theorem jc9(w:World)(f:Nat)(p:Option Addr)(c:Nat):Calls prog 103 #[.pointer (some ⟨f,0,none⟩),.slice p 0 c] w fun e w'=>e = .returned (.tuple #[])/\w'=w:=by
 go_enter func103,ntmps103;go_wp2;go_end0;exact⟨rfl,rfl⟩
theorem Ni{ρ:Nat->j3}{S:jc}{a:jz}(R:Rep w ρ d S)(Z:Small S)(x:S.files f=some a)(src:List UInt8)(A:src.length<1099511627776)(v:Value)(I:Arg w ρ v src) :
 Calls prog 103 #[.pointer (some ⟨f,0,none⟩),v] w fun e w'=>e = .returned (.tuple #[])/\∃ ρ',Rep w' ρ' d (S.withFile f (a.put src))/\x7 w ρ w' ρ':=by
 by_cases h0:src=[]
 ·subst h0
  have e:a.put []=a:=if_pos rfl
  have z:∃ p c,v = .slice p 0 c:=by
   rcases I with⟨rfl,_⟩|⟨y,c,rfl,_⟩
   ·exact⟨_,_,rfl⟩
   ·exact⟨_,_,rfl⟩
  obtain⟨p,c,rfl⟩:=z;refine(jc9 w f p c).mono ?_;rintro X w' ⟨rfl,rfl⟩;exact⟨rfl,ρ,by rw[e,Kq x];exact R,x7.refl _ _⟩
 ·rcases I with⟨_,e⟩|⟨y,c,rfl,_,t,T⟩
  ·exact absurd e h0
  have q:0<src.length:=ZX.2 h0;obtain⟨r,M,pv,L,U,s,O,m⟩:=R.files f a x;have G:=Z.files f a x;have V:y.block≠f:=fun e=>by rw[e,r] at t;cases t
  have F:pv.ownBlock≠some y.block:=fun e=>by rw[m _ e] at t;cases t
  have E:∀ g,M.ownBlock=some g->g≠f/\pv.ownBlock≠some g:=fun g b=>⟨fun e=>(by have:=s g b;rw[e,r] at this;cases this),fun e=>(by have:=s g b;rw[m g e] at this;cases this)⟩;have B:∀ g,pv.ownBlock=some g->g≠f:=fun g b e=>by have:=m g b;rw[e,r] at this;cases this
  refine(jc8 f a.bytes src a.late _ M pv y c w L U O G.1 G.2.1 A q T V F E B).mono ?_;rintro e w' ⟨rfl,j,l,D,o,n,lb,N,C,J⟩;refine⟨rfl,fun i=>if some i=j.ownBlock then .bytes f else if some i=l.ownBlock then .pieces f else ρ i,?_⟩
  have H:∀ i,i<w.heap.size->(if some i=j.ownBlock then j3.bytes f else if some i=l.ownBlock then .pieces f else ρ i)=ρ i:=by
   intro i u
   split
   ·rename_i e
    rcases lb with k|⟨g,k,b⟩
    ·rw[k] at e;exact(s i e.symm).symm
    ·rw[k] at e;have:=Option.some.inj e;omega
   ·split
    ·rename_i e
     rcases N with k|⟨g,k,b⟩
     ·rw[k] at e;exact(m i e.symm).symm
     ·rw[k] at e;have:=Option.some.inj e;omega
    ·rfl
  have e:a.put src=⟨a.bytes++src,a.safe,a.late++[(a.bytes.length,src.length)]⟩:=if_neg h0;rw[e];refine R.Wy x J ?_ H ?_ ⟨(H f (zC L)).trans r,j,l,D,o,?_,n,?_⟩
  ·rintro i _ (e|e|e)
   ·exact .inl e
   ·exact .inr (.inl (s i e.symm))
   ·exact .inr (.inr (m i e.symm))
  ·intro i u
   split at u
   ·rename_i e;exact(o.lt i e.symm).2
   ·split at u
    ·rename_i e;exact(n.lt i e.symm).2
    ·exact ZH (R.lt i u) J.size
  ·intro g b;simp[b]
  ·intro g b
   have W:some g≠j.ownBlock:=fun e=>C g e.symm b;simp[b,W]
end Go.Proofs.YtnipbplghijdmaaGreatDoor
