/-
-/
import Derived.Test.YtdaocdiabffpkaaGreatDoorR30
set_option maxRecDepth 100000
set_option maxHeartbeats 8000000
set_option linter.all false
namespace Go.Proofs.YtdaocdiabffpkaaGreatDoor
section
open RowKit Maps WideShapes Go.Proofs.Tryz
variable {w:World} {k:Nat} {v:Value} {l:List Rf.Ch}
theorem Bh(b x:Nat)(u:FrameMode)(w:World)(h:w.cell? (A2 x)=some .nilIface):CallsD prog 57 #[P1 b,P1 x] u w λe u' w'=>u'=u/\e=.returned (.tuple #[])/\w'=w:=by go_enter_d func57,ntmps57;go_wp2;go_end0;exact⟨rfl,rfl⟩
def Bo(c:Int)(n:Nat):Nat:=(if c<0 then -(c+1)else c).toNat%n
theorem Mp(c:Int){n:Nat}(h:0<n):Bo c n<n:=Nat.mod_lt _ h
theorem jdh(b:Nat)(c:List Value)(l:By)(h:w.heap[b]?=some (.cells c.toArray 5 (0,0)))(d:c=l.map qd)(f:l.length<1000):(convert 42 9 (.slice (some (A2 b)) l.length l.length)).run prog w=.ok (je l) w:=by refine Bytes.string ⟨some (A2 b),l.length,rfl,ZG _,by unfold maxLen;omega,(λh=>by cases h),λg g=>?_⟩;cases g;refine⟨rfl,λj u g=>?_⟩;rw[Xi];have:=zM (o:=0+j) h;rw[this,d];simp[g]
theorem joc(h:k<256):qd (UInt8.ofNat k)=.int .u8 (k:Int):=by grind [ZP]
def Prs(w:World)(v:Value)(l:L1):Prop:=∃ base,w.ownsRow base 120 2 v l.length (Jb l)
theorem Prs.same{w':World}(h:Prs w v l)(k:ja w w' N_):Prs w' v l:=by obtain⟨base,h⟩:=h;exact⟨base,k.row h λ_ _ h=>h⟩
theorem jc3(h:k<l.length):(Jb l)[k*2]?=some (je l[k].key)/\(Jb l)[k*2+1]?=some (je l[k].value):=by induction l generalizing k with|nil=>simp at h|cons x r ih=>cases k with|zero=>simp[Jb]|succ k=>grind [Jb]
theorem Prs.at(h:Prs w v l)(b:k<l.length):∃ g c,v=.slice (some (A2 g)) l.length c/\w.cell? ⟨g,k*2,none⟩=some (je l[k].key)/\w.cell? ⟨g,k*2+1,none⟩=some (je l[k].value):=by
 obtain⟨base,h⟩:=h;have f:=jc3 b;obtain⟨_,p⟩|⟨g,cap,i,e,_,d,o,n,m,j⟩:=h.2
 .omega
 grind [zM]
end
section
open RowKit Maps WideShapes Go.Proofs.Tryz
def lens(ls:List L1):Nat:=(ls.map List.length).sum
structure Am(i:Nat)(s:Rf.St):Prop where
 ok:s.Ok
 last:s.last=i
 base:s.m.base=0
 next:s.m.next<=2+2*s.m.last
 jo8:1<=s.m.next
 len:s.bls.length=s.m.runs.length
 runs:s.m.runs.length<=s.m.last
 all:lens s.bls<=8*s.m.last
 log:(Rf.ji s.m.last s.bs).length<=265*s.bs.length
 mem:s.mem.length<=8*s.bs.length
end
section
open RowKit Maps WideShapes Go.Shelf Go.Proofs.Tryz
theorem jii{w:World}{b:Nat}{t:TypeId}{s r q p n m l c7 k:Value}(i:w.heap[b]?=some (.cells #[s,r,q,p,n,m,l,c7,k,.bool false] t (0,0)))(lo hi:Str)(most:Int)(u:most<0):Calls prog 92 #[P1 b,je lo,je hi,aA most] w λe w'=>e=.returned (.tuple #[S5,aA 5])/\ja w w' N_:=by
 obtain⟨j,c⟩:=zJ ((((w.alloc<|.cells #[P1 b] 38).alloc<|.cells #[aA most] 3).alloc<|.cells #[S5] 118).alloc (.cells #[aA 0] 39));have g:ja w j N_:=by rw[c];exact(((ja.alloc w _ _).more _).more _).more _
 have d:=zM (o:=9)<|g.same i id;simp at d;have f:=d;rw[c] at f;clear i c d g;go_enter func92,ntmps92;go_wp2;refine bodyPost_ret (v:=.tuple #[S5,aA 5]) (by simp[results,Tryz.results92,go_sem]) rfl ?_;exact⟨rfl,(((ja.alloc w _ _).more _).more _).more _⟩
end
section
open RowKit Maps WideShapes Go.Proofs.Tryz
variable {T:List Rf.Ch} {hi lo:Str} {j m:Nat} {c:Rf.Ch}
theorem Tryz.Ea:(prog.info? 68).map (λi=>(i.zero,i.size,i.bytes))=some (some S5,1,24):=by kernel_rfl
def Jz(T:L1)(lo hi:Str)(m j:Nat):L1:=((T.take j).filter (Rf.Zp lo hi)).take m
theorem P8(h:T[j]?=some c)(d:Rf.Zp lo hi c=true)(b:(Jz T lo hi m j).length<m):Jz T lo hi m (j+1)=Jz T lo hi m j++[c]:=by
 unfold Jz at b ⊢;rw[zR,h,ZD,List.filter_append,List.take_append];rw[ZQ] at b;have e:List.filter (Rf.Zp lo hi) [c]=[c]:=by simp[d]
 rw[e,ZC (l:=[c]) (by rw[ZJ];omega)]
theorem Kt(h:T[j]?=some c)(b:Rf.Zp lo hi c=false):Jz T lo hi m (j+1)=Jz T lo hi m j:=by unfold Jz;rw[zR,h,ZD,List.filter_append];simp[b]
theorem Ou(T:L1)(lo hi:Str)(m j:Nat):(Jz T lo hi m j).length<=j:=by unfold Jz;rw[ZQ];have c:=ZK (Rf.Zp lo hi)<|T.take j;have b:=ZB j T;omega
end
end Go.Proofs.YtdaocdiabffpkaaGreatDoor
namespace Go.Proofs.YtdaocdiabffpkaaGreatDoor.Rf
open Go.Proofs.Tryz
def jo1(l:List Ch)(c:Ch):List Ch:=r9 c (l.foldl (Qh c) ([],c.gone))
def jol(l:List Ch)(b:List Ch):List Ch:=b.foldl jo1 l
def jfl(bs:List (List Ch)):List Ch:=bs.foldl jol []
def ew(c:Ch):Nat:=(entry c).length+8
def mu(l:List Ch):Nat:=(l.map ew).sum
theorem jl2(c:Ch)(l:List Ch):mu (c::l)=ew c+mu l:=by simp[mu]
theorem Kk(l:List Ch):mu l=(l.flatMap entry).length+8*l.length:=by induction l with|nil=>rfl|cons c r ih=>grind [jl2,ew]
theorem Py(l:List Ch)(m:Nat)(b:4*m<l.length+4):(qu l m).length=((l.take (4*m)).flatMap entry).length+9*m:=by induction m with|zero=>simp[qu]|succ m ih=>grind [nj,jw,frame,jm]
theorem nk(n:Nat)(b:List Ch):(jn n b).length+8*b.length=17+mu b:=by grind [Kk,jn,frame,jm]
end Go.Proofs.YtdaocdiabffpkaaGreatDoor.Rf
namespace Go.Proofs.YtdaocdiabffpkaaGreatDoor
section
open Go.Proofs.Tryz
theorem Db(m:Rf.Man):m.settled.length<=m.runs.length+1:=by grind [Rf.Man.settled]
end
section
open RowKit Maps WideShapes Go.Proofs.Tryz
def jl1(S:jd)(nm:Str):Nat:=(S.at nm).elim 0 (λf=>(y9 S.files f).length)
def l8(S:jd)(i:Nat):Nat:=((S.keys.take i).map (jl1 S)).sum
theorem jlc{w:World}{base:Nat}{p:Option Addr}{c:Nat}{K:List Str}(h:w.ownsRow base 9 1 (.slice p K.length c) K.length (K.map encStr)){i:Nat}(hi:i<K.length):∃ g,p=some (A2 g)/\w.cell? (B1 g i)=some (je K[i]):=by
 obtain⟨_,n⟩|⟨g,cap,d,e,_,b,m,l,k,j⟩:=h.2;omega
 .injection e with e1 e2 e3;refine⟨g,e1,?_⟩;(have f:(K.map encStr)[i]?=some (je K[i]):=zG);grind [zM]
end
