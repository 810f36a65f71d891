/-
-/
import Derived.Lib.SliceRun
import Derived.Test.YtmjgfacoogdcdaaGreatDoorO04
set_option maxRecDepth 100000
set_option maxHeartbeats 8000000
set_option linter.all false
namespace Go.Proofs.YtmjgfacoogdcdaaGreatDoor
open RowKit Maps WideShapes Go.Proofs.Tryz
variable {w:World} {d f:Nat}
def Reads(w:World)(v:Value)(l:By):Prop :=
 (v=.slice none 0 0/\l=[])\/∃ ad c,v=.slice (some ad) l.length c/\∀ j u,(l.map j7)[j]?=some u->w.cell? (ad.add j)=some u
theorem Ct{base:Nat}{v:Value}{l:By}(h:w.ownsRow base 5 1 v l.length (l.map j7)):Reads w v l:=by have c:=h;obtain⟨e,b⟩|⟨g,cap,d,e,_⟩:=h.2;exact .inl ⟨e,ZH b⟩;refine .inr ⟨(aC g),cap,e,?_⟩;exact c.cells (by rw[e];rfl)
theorem Ew(w:World)(v:Value)(l:By)(D:l.length<1099511627776)(z:Reads w v l):Calls prog 29 #[v] w λe w'=>∃ p c,e=.returned (.slice p l.length c)/\w'.ownsRow w.heap.size 5 1 (.slice p l.length c) l.length (l.map j7)/\ja w w' No:=by
 obtain⟨y,A,m,i,g⟩:=info_parts Tryz.vf;have q:∀(w:World) (a:Option Addr) (n c n' c':Nat),(binOp .eql 48 (.slice a n c)<|.slice none n' c').run prog w=.ok (.bool a.isNone) w:=λw a n c n' c'=>Lib.run_eql_slice_nil w _ _ a n c n' c' underlying48
 obtain⟨rfl,rfl⟩|⟨t,c,rfl,B⟩:=z
 .go_enter func29,ntmps29;go_wp2;go_ret;exact⟨none,0,rfl,ZR _ _ _ _,ja.refl _ _⟩
 .have f:(w.alloc<|.cells #[] 5).ownsRow w.heap.size 5 1 (.slice (some (aC w.heap.size)) 0 0) 0 []:=World.ownsRow_made w #[] 0 (zR _) (ZC _) rfl;(have r:∀ j u,(l.map j7)[j]?=some u->(w.alloc<|.cells #[] 5).cell? (t.add j)=some u:=λj u hu=>(ja.alloc w _ λ_=>False).cell (B j u hu) id);go_enter func29,ntmps29;go_wp2_with (first|(at_builtin;refine jl _ rfl (.tmp 5) (.tmp 6) 48 rfl w.heap.size 5 y (.int .u8 0) 1 1 underlying48 A m i g rfl zE _ 0 [] rfl f t l.length c (l.map j7) rfl zD r (Ez _) (by unfold maxLen;omega) zC zD ?_;intro x s C b o d;simp only[ZB,ZO] at b d ⊢)|go_in);go_ret;refine⟨x,s,rfl,b,((ja.refl w _).more _).grow o λk e hk=>?_⟩;have:=Option.some.inj e;simp only at this;omega
theorem Ti{ρ:Nat->jz}{S:jg}(nm:Str)(R:Rep w ρ d S)(Z:Small S)(v:nm.length<1099511627776):Calls prog 12 #[aA d,jc nm] w λe w'=>ja w w' No/\((S.at nm=none/\e=.returned (.tuple #[S7,.bool false]))\/(∃ f a p c,S.at nm=some f/\S.files f=some a/\e=.returned (.tuple #[.slice p a.bytes.length c,.bool true])/\w'.ownsRow w.heap.size 5 1 (.slice p a.bytes.length c) a.bytes.length (a.bytes.map j7))):=by
 have g:=Zv v;have k:S.at nm=none\/∃ f,S.at nm=some f:=by cases S.at nm<;>simp
 obtain⟨m,B,lv,n,rn,rs,l,_⟩:=R.mem;have y:=zK 0 n;simp at y;clear n;obtain b|⟨f,b⟩:=k
 .change Hid _ at b;go_enter func12,ntmps12;go_wp2_with (first|(at_lookup;refine xr _ rfl _ _ rfl m _ _ rfl l _ _ rfl g (.pointer none) (congrArg me b.out) ?_)|go_in);go_ret2;exact⟨ja.refl _ _,.inl ⟨b.out,rfl⟩⟩
 .obtain⟨a,j⟩:=R.at b;change Hid _ at b j;obtain⟨D,bv,pv,o,q,E,G,C⟩:=R.files f a j.out;have u:=Ct q;have t:=(Z.files f a j.out).1;have z:=zK 0 o;simp at z;clear o;obtain⟨F,H,rfl⟩:=ji q;go_enter func12,ntmps12;go_wp2_with (first|(at_lookup;refine xr _ rfl _ _ rfl m _ _ rfl l _ _ rfl g (.pointer<|some (aC f)) (congrArg me b.out) ?_)|(go_at_call 29;refine(Ew w _ a.bytes t u).mono ?_;rintro e A ⟨r,x,rfl,i,s⟩)|go_in);go_ret2;exact⟨s,.inr ⟨f,a,r,x,b.out,j.out,rfl,i⟩⟩
def yr.put(a:yr)(src:By):yr:=if src=[] then a else⟨a.bytes++src,a.safe,a.late++[(a.bytes.length,src.length)]⟩
def Arg(w:World)(ρ:Nat->jz)(v:Value)(l:By):Prop :=
 (v=.slice none 0 0/\l=[])\/∃ ad c,v=.slice (some ad) l.length c/\l.length<=c/\ρ ad.block=.none/\∀ j u,(l.map j7)[j]?=some u->w.cell? (ad.add j)=some u
theorem Lz{S:jg}{a:yr}(h:S.files f=some a):S.withFile f a=S:=by have e:(λi=>if i=f then some a else S.files i)=S.files:=zF;unfold jg.withFile;rw[e]
theorem jf1(w:World)(f:Nat)(p:Option Addr)(c:Nat):Calls prog 67 #[aA f,.slice p 0 c] w λe w'=>e=.returned (.tuple #[])/\w'=w:=by go_enter func67,ntmps67;go_wp2;go_end0;exact⟨rfl,rfl⟩
theorem O3{ρ:Nat->jz}{S:jg}{a:yr}(R:Rep w ρ d S)(Z:Small S)(r:S.files f=some a)(src:By)(t:src.length<1099511627776)(v:Value)(D:Arg w ρ v src):Calls prog 67 #[aA f,v] w λe w'=>e=.returned (.tuple #[])/\∃ ρ',Rep w' ρ' d (S.withFile f (a.put src))/\xq w ρ w' ρ':=by
 by_cases h0:src=[];subst h0;have e:a.put []=a:=if_pos rfl;have s:∃ p c,v=.slice p 0 c:=by obtain⟨rfl,_⟩|⟨o,c,rfl,_⟩:=D;exact⟨_,_,rfl⟩;exact⟨_,_,rfl⟩
 obtain⟨p,c,rfl⟩:=s;refine(jf1 w f p c).mono ?_;grind [Lz,xq.refl];obtain⟨_,e⟩|⟨o,c,rfl,_,n,I⟩:=D;exact absurd e h0;have m:0<src.length:=xV.2 h0;obtain⟨B,bv,pv,F,J,N,H,G⟩:=R.files f a r;have A:=Z.files f a r;have L:o.block≠f:=λe=>by rw[e,B] at n;cases n
 have z:pv.ownBlock≠some o.block:=λe=>by rw[G _ e] at n;cases n
 have y:∀ g,bv.ownBlock=some g->g≠f/\pv.ownBlock≠some g:=λg q=>⟨λe=>zG,λe=>zG⟩
 have u:∀ g,pv.ownBlock=some g->g≠f:=λg q e=>zG
 refine(jf0 f a.bytes src a.late _ bv pv o c w F J H A.1 A.2.1 t m I L z y u).mono ?_;rintro e w' ⟨rfl,j,b,x,l,k,lb,O,M,E⟩;refine⟨rfl,λi=>if some i=j.ownBlock then .bytes f else if some i=b.ownBlock then .pieces f else ρ i,?_⟩;have C:∀ i,i<w.heap.size->(if some i=j.ownBlock then jz.bytes f else if some i=b.ownBlock then .pieces f else ρ i)=ρ i:=zF;have e:a.put src=⟨a.bytes++src,a.safe,a.late++[(a.bytes.length,src.length)]⟩:=if_neg h0;rw[e];refine R.jbz r E ?_ C ?_ ⟨(C f<|zO F).trans B,j,b,x,l,?_,k,?_⟩;grind;intro i hi;split at hi;rename_i e;exact(l.lt i e.symm).2;split at hi;rename_i e;exact(k.lt i e.symm).2;exact zU (R.lt i hi) E.size;intro g q;simp[q];grind
