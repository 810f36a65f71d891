/-
  D: Scan Marks FindA.
-/
import Derived.Test.YtnipbplghijdmaaGreatDoorD27
set_option maxRecDepth 100000
set_option maxHeartbeats 8000000
set_option linter.unusedVariables false
set_option linter.unusedSimpArgs false
namespace Go.Proofs.YtnipbplghijdmaaGreatDoor
open RowKit Maps WideShapes Go.Shelf Go.Proofs.Tryz
attribute [local go_sem] Oper.semAt_some
def qm(l:List Rf.Ch):List Value:=l.flatMap fun c=>[jf c.key,jf c.value]
theorem Qo(l:List Rf.Ch)(c:Rf.Ch):qm (l++[c])=qm l++qm [c]:=by simp[qm]
theorem Nk(l:List Rf.Ch):∀ u∈qm l,u.oneCell'=true:=by
 intro u b;obtain⟨c,_,h⟩:=List.mem_flatMap.1 b;simp at h;rcases h with rfl|rfl<;>rfl
def prZ:Value:= .agg #[.string ⟨#[]⟩,.string ⟨#[]⟩]
theorem Tryz.jd8:(prog.info? 65).map (fun i=>(i.zero,i.size,i.bytes))=some (some prZ,2,32):=by kernel_rfl
theorem jd4{l:List Rf.Ch}{m:Nat}{most:Nat}(h:(kept (l.take m)).length=most):(kept l).take most=kept (l.take m):=by
 have e:kept l=kept (l.take m)++kept (l.drop m):=by unfold kept;rw[<-yA,xQ]
 rw[e,<-h,XK]
def Tw(E:Nat->Addr)(B:Nat)(ρ:Nat->j3)(d b:Nat)(t:TypeId)(row:Bool->Array Value)(deg:Bool)(most:Nat)(S':jc)(l:List Rf.Ch)(err:Option Bool)(w:World)(e:Ending)(w':World):Prop :=
 ja w w' (fun i=>qj ρ i\/i=b)/\Dk E B w' ρ d S' /\
 ((∃ v,e = .returned (.tuple #[v,.int .i64 0])/\(err=none\/l≠[])/\w'.ownsRow w.heap.size 65 2 v ((kept l).take most).length (qm ((kept l).take most))/\w'.heap[b]?=some (.cells (row deg) t (0,0))) \/
  (err≠none/\e = .returned (.tuple #[.slice none 0 0,.int .i64 1])/\w'.heap[b]?=some (.cells (row true) t (0,0))))
theorem jc0{P:jc->Prop}{E:Nat->Addr}{B:Nat}{ρ:Nat->j3}{d:Nat}{S:jc}{w:World}{b:Nat}{t:TypeId}(z:Rf.Man)(rv last mv:Value)(mem:List Rf.Ch)(ag:Bool)(ad:List (List (List Rf.Ch)))(H:Env E B w)(D:Dk E B w ρ d S)(Z:P S)(R:fu P z.settled ad)(hb:w.heap[b]?=some (.cells (qv (.pointer (some ⟨d,0,none⟩)) (jg z.next) (jg z.last) (jg z.log) (jg z.base) rv last mv ag false) t (0,0)))(dg:¬qj ρ b)(hn:B<=b)(hv:Jw w rv z.runs)(hl:z.runs.length<262144)(dn:Chs w mv mem)(hr:lr mem)(dk:∀ p n c,mv = .slice (some p) n c->¬qj ρ p.block/\p.block<w.heap.size)(lo N:Str)(most:Nat)(fo:most<9223372036854775808)(cp:(Xf (j9 N (Y2 (mem.drop (Rf.below mem lo))::xz ad lo) S)).length<1048576) :
 Calls prog 29 #[.pointer (some ⟨b,0,none⟩),jf lo,jf N,j6 most] w
  (Tw E B ρ d b t (fun x=>qv (.pointer (some ⟨d,0,none⟩)) (jg z.next) (jg z.last) (jg z.log) (jg z.base) rv last mv x false) ag most (j9 N (Y2 (mem.drop (Rf.below mem lo))::xz ad lo) S).1 (Xf (j9 N (Y2 (mem.drop (Rf.below mem lo))::xz ad lo) S)) (Ll (j9 N (Y2 (mem.drop (Rf.below mem lo))::xz ad lo) S)) w):=by
 have h7:=xy z;obtain⟨wA,a6⟩:∃ wA,wA=((((w.alloc (.cells #[.pointer (some ⟨b,0,none⟩)] 49)).alloc (.cells #[j6 most] 3)).alloc (.cells #[.slice none 0 0] 55)).alloc (.cells #[.int .i64 0] 48)).alloc (.cells #[.slice none 0 0] 55):=⟨_,rfl⟩;have kA:ja w wA (fun _=>False):=by rw[a6];exact((((ja.alloc w _ _).more _).more _).more _).more _
 have sA:wA.heap.size=w.heap.size+1+1+1+1+1:=by rw[a6];simp
 have y0:wA.heap[w.heap.size]?=some (.cells #[.pointer (some ⟨b,0,none⟩)] 49 (0,0)):=by
  rw[a6];exact((((ja.alloc _ _ (fun _=>False)).more _).more _).more _).same (je w _) id
 have y1:wA.heap[w.heap.size+1]?=some (.cells #[j6 most] 3 (0,0)):=by
  rw[a6];have:=je (w.alloc (.cells #[.pointer (some ⟨b,0,none⟩)] 49)) (.cells #[j6 most] 3);rw[xJ] at this;exact(((ja.alloc _ _ (fun _=>False)).more _).more _).same this id
 have y2:wA.heap[w.heap.size+1+1]?=some (.cells #[.slice none 0 0] 55 (0,0)):=by
  rw[a6];have:=je ((w.alloc (.cells #[.pointer (some ⟨b,0,none⟩)] 49)).alloc (.cells #[j6 most] 3)) (.cells #[.slice none 0 0] 55);rw[xJ,xJ] at this;exact((ja.alloc _ _ (fun _=>False)).more _).same this id
 have y3:wA.heap[w.heap.size+1+1+1]?=some (.cells #[.int .i64 0] 48 (0,0)):=by
  rw[a6];have:=je (((w.alloc (.cells #[.pointer (some ⟨b,0,none⟩)] 49)).alloc (.cells #[j6 most] 3)).alloc (.cells #[.slice none 0 0] 55)) (.cells #[.int .i64 0] 48);rw[xJ,xJ,xJ] at this;exact(ja.alloc _ _ (fun _=>False)).same this id
 have y4:wA.heap[w.heap.size+1+1+1+1]?=some (.cells #[.slice none 0 0] 55 (0,0)):=by
  rw[a6];have:=je ((((w.alloc (.cells #[.pointer (some ⟨b,0,none⟩)] 49)).alloc (.cells #[j6 most] 3)).alloc (.cells #[.slice none 0 0] 55)).alloc (.cells #[.int .i64 0] 48)) (.cells #[.slice none 0 0] 55);rw[xJ,xJ,xJ,xJ] at this;exact this
 have hh:=zC hb;have bh:=ob d z rv last mv mem ag false lo (H.same kA) (kA.same hb id) (hv.same kA) (by omega) R.num (dn.same kA) hr.1 hr.2.2;have cr:lr (mem.drop (Rf.below mem lo)):=⟨hr.1.sublist (List.drop_sublist _ _),fun c hc=>hr.2.1 c (XX hc),XP (List.drop_sublist _ _).length_le hr.2.2⟩
 have bl:∀ ls,(j9 N (Y2 (mem.drop (Rf.below mem lo))::xz ad lo) S).2 = .inl ls->wk ls:=fun ls e=>wk.of (u1 (fun st a7 S'=>by
  rcases zF.1 a7 with rfl|a7
  ·exact cr
  ·exact R.y7 lo st a7 S') e)
 have hρ:=D.rep.lt;have hB:=D.size
 have ak:=fun(fm lv:Value) (hfm:∃ g a b,fm = .func g a b) (n:Nat)=>kz (P:=P) (E:=E) (B:=B) (ρ:=ρ) (d:=d) (n:=n) (S:=S) lv (fm::z.settled.map (fun n=>Yo d n lo)) (Y2 (mem.drop (Rf.below mem lo))::xz ad lo) N (by simp[R.len]) (by simp;omega) (fun f hf=>by
  rcases zF.1 hf with rfl|hf
  ·exact hfm
  ·obtain⟨n,_,rfl⟩:=zS.1 hf
   exact⟨_,_,_,rfl⟩) bl
 have e5:Hid (∀(W:World) (k:Nat) f st,(z.settled.map (fun n=>Yo d n lo))[k]?=some f->(xz ad lo)[k]?=some st->kh P E B ρ d W f st):=fun W=>R.layers lo;obtain⟨bz,bg⟩:∃ bz,bz=Y2 (mem.drop (Rf.below mem lo))::xz ad lo:=⟨_,rfl⟩;rw[<-bg] at ak cp ⊢;generalize j9 N bz S=G at ak cp ⊢;generalize Xf G=l at ak cp ⊢;generalize Ll G=err at ak ⊢;generalize G.1=S' at ak ⊢;have fd:=jb ak;rw[a6] at bh;have dz:=jb bh;have HB:=jb hb;have dy:=jb bg;have fc:=jb dk;have fh:=jb cr;have f9:=jb a6;have f8:=jb y0;have f7:=jb y1;have f6:=jb y2;have f5:=jb y3;have f0:=jb y4;have d9:=zA (o:=9) (((ja.alloc w (.cells #[.pointer (some ⟨b,0,none⟩)] 49) (fun _=>False)).more (.cells #[j6 most] 3)).more (.cells #[.slice none 0 0] 55) |>.more (.cells #[.int .i64 0] 48) |>.same hb id);simp at d9;clear ak bh hb bg bl dk cr a6 y0 y1 y2 y3 y4 dn hr;refine(callsIn_wide (n:=9)).1 ?_;refine callsIn_of_wp_marks func29 rfl trivial ?_ rfl;simp only[ntmps29,xY,zH,zX,Nat.reduceAdd,Nat.reduceSub,xZ,XA,XB,XC,xL,xM]
 gi_wp2_with fail
 refine⟨trivial,(callsIn_wide.2 dz.out).mono ?_⟩;rintro e W0 ⟨b7,b8,v0,rfl,ae,cb,cc,kS⟩;rw[<-f9.out] at ae kS;have e8:=jb cc;have e7:=jb cb;clear cc cb
 gi_wp2_with fail
 refine⟨trivial,(callsIn_wide.2 (Mg b7 (z.settled.length+1) b8 N W0)).mono ?_⟩;rintro e az ⟨rfl,rfl⟩
 gi_wp2
 have kW:ja w az (fun _=>False):=kA.tt kS;have sW:w.heap.size+1+1+1+1+1<=az.heap.size:=by have:=kS.size;omega
 have bb:=kW.same HB.out id;have b0:=kS.same f8.out id;have b1:=kS.same f7.out id;have b2:=kS.same f6.out id;have b3:=kS.same f5.out id;have b4:=kS.same f0.out id;have nT:∀ i,w.heap.size<=i->¬qj ρ i:=fun i N h=>by have:=hρ i h;omega
 have bk:ll az (.slice b7 (z.settled.length+1) b8) (Bx v0::z.settled.map (fun n=>Yo d n lo)):=gh ae (by simp)
 have c6:Bx v0::z.settled.map (fun n=>Yo d n lo)≠[]->∀ p n c,Value.slice b7 (z.settled.length+1) b8 = .slice (some p) n c->¬qj ρ p.block:=by
  intro _ p n c e;injection e with e;have:=(ae.lt p.block (by rw[e];rfl)).1;exact nT _ (by omega)
 have di:∀ p n c,v0 = .slice (some p) n c->¬qj ρ p.block/\p.block<w.heap.size:=by
  intro p n c e;obtain⟨ez,n',c',e1,e2⟩:=e8.out p n c e;rw[<-e2];exact fc.out ez n' c' e1
 have aj:∀ W1,ja az W1 (fun _=>False)->Ce P E B ρ d S (.slice b7 (z.settled.length+1) b8) (Bx v0::z.settled.map (fun n=>Yo d n lo)) bz W1:=by
  intro W1 k;have k1:=kW.tt k;refine⟨D.same k1,Z,bk.same k,c6,fun j f st hf a7=>?_⟩;rw[dy.out] at a7
  cases j with
  | zero =>
   cases hf;cases a7;exact jds (e7.out.same k) fh.out.2.2 (fun p n c e=>⟨(di p n c e).1,by have:=(di p n c e).2;have:=k1.size;omega⟩) (by have:=k1.size;omega)
  | succ j=>exact e5.out W1 j f st hf a7
 have fb:=jb aj;clear aj bk c6 ae
 have bj:∀ {W:World} {D:Nat} {v:Value},(err=none\/l≠[])->az.heap.size<=D->¬v.ownBlock=some D->W.heap[D]?=some (.deferred (some []))->Dk E B W ρ d S'->(W.heap[b]?=some (.cells (qv (.pointer (some ⟨d,0,none⟩)) (jg z.next) (jg z.last) (jg z.log) (jg z.base) rv last mv ag false) t (0,0))/\W.heap[w.heap.size]?=some (.cells #[.pointer (some ⟨b,0,none⟩)] 49 (0,0))/\W.heap[w.heap.size+1]?=some (.cells #[j6 most] 3 (0,0))/\W.heap[w.heap.size+1+1]?=some (.cells #[.slice none 0 0] 55 (0,0))/\W.heap[w.heap.size+1+1+1]?=some (.cells #[.int .i64 0] 48 (0,0)))->W.ownsRow w.heap.size 65 2 v ((kept l).take most).length (qm ((kept l).take most))->(∀ g,v.ownBlock=some g->w.heap.size+5<=g)->ja w W (fun i=>qj ρ i\/i=b) ->
  ((W.setCell ⟨w.heap.size+1+1,0,none⟩ v).setCell ⟨w.heap.size+1+1+1,0,none⟩ (.int .i64 0)).heap[D]?=some (.deferred (some [])) /\
  (((W.setCell ⟨w.heap.size+1+1,0,none⟩ v).setCell ⟨w.heap.size+1+1+1,0,none⟩ (.int .i64 0)).putObj D (.deferred none)).cell? ⟨w.heap.size+1+1,0,none⟩=some v /\
  (((W.setCell ⟨w.heap.size+1+1,0,none⟩ v).setCell ⟨w.heap.size+1+1+1,0,none⟩ (.int .i64 0)).putObj D (.deferred none)).cell? ⟨w.heap.size+1+1+1,0,none⟩=some (.int .i64 0) /\
  Tw E B ρ d b t (fun x=>qv (.pointer (some ⟨d,0,none⟩)) (jg z.next) (jg z.last) (jg z.log) (jg z.base) rv last mv x false) ag most S' l err w (.returned (.tuple #[v,.int .i64 0])) (((W.setCell ⟨w.heap.size+1+1,0,none⟩ v).setCell ⟨w.heap.size+1+1+1,0,none⟩ (.int .i64 0)).putObj D (.deferred none)):=by
  intro W D v h1 hD b9 hK DK ⟨gb,g0,g1,g2,g3⟩ y s U
  have k1:=ja.setCell W ⟨w.heap.size+1+1,0,none⟩ v
  have k2:=ja.setCell (W.setCell ⟨w.heap.size+1+1,0,none⟩ v) ⟨w.heap.size+1+1+1,0,none⟩ (.int .i64 0)
  have k3:=ja.putObj ((W.setCell ⟨w.heap.size+1+1,0,none⟩ v).setCell ⟨w.heap.size+1+1+1,0,none⟩ (.int .i64 0)) D (.deferred none)
  have kk:ja W (((W.setCell ⟨w.heap.size+1+1,0,none⟩ v).setCell ⟨w.heap.size+1+1+1,0,none⟩ (.int .i64 0)).putObj D (.deferred none)) (fun i=>i=w.heap.size+1+1\/i=w.heap.size+1+1+1\/i=D) :=
   ((k1.mono (fun _ _ h=> .inl h)).trans k2 (fun _ _ h=> .inr (.inl h))).trans k3 (fun _ _ h=> .inr (.inr h))
  have e1:=k2.same (jd (o:=0) g2 v) (by simp)
  have e2:=jd (o:=0) (k1.same g3 (by simp)) (Value.int .i64 0)
  refine⟨k2.same (k1.same hK (by simp;omega)) (by simp;omega),(zA (k3.same e1 (by omega))).trans rfl,(zA (k3.same e2 (by omega))).trans rfl,U.trans kk (fun i N h=>by omega),?_,.inl ⟨v,rfl,h1,?_,kk.same gb (by omega)⟩⟩
  ·refine DK.apart kk (fun i N h=>?_)
   rcases h with h|h|h
   ·exact⟨nT i (by omega),by omega⟩
   ·exact⟨nT i (by omega),by omega⟩
   ·exact⟨nT i (by omega),by omega⟩
  ·refine kk.row y (fun g V h=>?_)
   have:=s g V;rcases h with h|h|h
   ·omega
   ·omega
   ·exact b9 (h▸V)
 refine dm rfl (by decide) (gf:=123) (rv:=#[.agg #[.slice b7 (z.settled.length+1) b8,jf N]]) (lb:=#[]) rfl trivial lj (fd.out (Bx v0) _ ⟨_,_,_,rfl⟩ 8) (fun _=>rfl) (fun i h=>by have:=hρ i h;omega) (fun i h=>by omega) fb.out
  (fun au C W=>∃(m:Nat) (v:Value),au=(l.take m).map Ja/\m<=l.length/\(kept (l.take m)).length<=most/\(W.heap[b]?=some (.cells (qv (.pointer (some ⟨d,0,none⟩)) (jg z.next) (jg z.last) (jg z.log) (jg z.base) rv last mv ag false) t (0,0))/\W.heap[w.heap.size]?=some (.cells #[.pointer (some ⟨b,0,none⟩)] 49 (0,0))/\W.heap[w.heap.size+1]?=some (.cells #[j6 most] 3 (0,0))/\W.heap[w.heap.size+1+1]?=some (.cells #[.slice none 0 0] 55 (0,0))/\W.heap[w.heap.size+1+1+1]?=some (.cells #[.int .i64 0] 48 (0,0)))/\W.heap[w.heap.size+1+1+1+1]?=some (.cells #[v] 55 (0,0))/\W.ownsRow w.heap.size 65 2 v (kept (l.take m)).length (qm (kept (l.take m)))/\(∀ g,v.ownBlock=some g->w.heap.size+5<=g)/\ja w W (fun i=>qj ρ i\/i=b)/\(∀ i,C i↔i=b\/i=w.heap.size+1+1\/i=w.heap.size+1+1+1\/i=w.heap.size+1+1+1+1\/v.ownBlock=some i))
  (fun c au C W=>(c = .ret/\err≠none/\W.heap[b]?=some (.cells (qv (.pointer (some ⟨d,0,none⟩)) (jg z.next) (jg z.last) (jg z.log) (jg z.base) rv last mv true false) t (0,0))/\W.heap[w.heap.size+1+1]?=some (.cells #[.slice none 0 0] 55 (0,0))/\W.heap[w.heap.size+1+1+1]?=some (.cells #[.int .i64 1] 48 (0,0))/\ja w W (fun i=>qj ρ i\/i=b)) \/
   (c = .exit 0/\∃(v:Value),l≠[]/\(W.heap[b]?=some (.cells (qv (.pointer (some ⟨d,0,none⟩)) (jg z.next) (jg z.last) (jg z.log) (jg z.base) rv last mv ag false) t (0,0))/\W.heap[w.heap.size]?=some (.cells #[.pointer (some ⟨b,0,none⟩)] 49 (0,0))/\W.heap[w.heap.size+1]?=some (.cells #[j6 most] 3 (0,0))/\W.heap[w.heap.size+1+1]?=some (.cells #[.slice none 0 0] 55 (0,0))/\W.heap[w.heap.size+1+1+1]?=some (.cells #[.int .i64 0] 48 (0,0)))/\W.heap[w.heap.size+1+1+1+1]?=some (.cells #[v] 55 (0,0))/\W.ownsRow w.heap.size 65 2 v ((kept l).take most).length (qm ((kept l).take most))/\(∀ g,v.ownBlock=some g->C g/\w.heap.size+5<=g)/\ja w W (fun i=>qj ρ i\/i=b)))
  ?hI ?hIx (fun i=>i=b\/i=w.heap.size+1+1\/i=w.heap.size+1+1+1\/i=w.heap.size+1+1+1+1) ?hC0 ?h0 ?round ?done ?stop
 case hI =>
  rintro au C A B' ⟨m,v,e,hm,ax,⟨gb,g0,g1,g2,g3⟩,g4,y,s,U,hC⟩ M
  have out:∀ i,(i=b\/w.heap.size<=i)->(i<w.heap.size+5\/v.ownBlock=some i)->¬(qj ρ i\/(az.heap.size<=i/\¬C i)):=by
   rintro i h1 h2 (h3|⟨h3,h4⟩)
   ·rcases h1 with h1|h1
    ·exact dg (h1▸h3)
    ·exact nT i h1 h3
   ·rcases h2 with h2|h2
    ·omega
    ·exact h4 ((hC i).2 (.inr (.inr (.inr (.inr h2)))))
  refine⟨m,v,e,hm,ax,⟨ja.same M gb (out _ (.inl rfl) (.inl (by omega))),ja.same M g0 (out _ (.inr (by omega)) (.inl (by omega))),ja.same M g1 (out _ (.inr (by omega)) (.inl (by omega))),ja.same M g2 (out _ (.inr (by omega)) (.inl (by omega))),ja.same M g3 (out _ (.inr (by omega)) (.inl (by omega)))⟩,ja.same M g4 (out _ (.inr (by omega)) (.inl (by omega))),
   ja.row M y (fun g V=>out g (.inr (by have:=s g V;omega)) (.inr V)),s,U.trans M (fun i N h=>?_),hC⟩
  rcases h with h|⟨h,_⟩
  ·exact .inl h
  ·omega
 case hIx =>
  rintro c au C A B' lp r (⟨rfl,h1,h3,h4,h5,h6⟩|⟨rfl,v,h1,⟨gb,g0,g1,g2,g3⟩,g4,y,s,U⟩) co et hr M
  ·have F:∀ i,i<w.heap.size+5->¬i=lp:=fun i N=>by omega
   exact .inl ⟨rfl,h1,M.same h3 (F _ (by omega)),M.same h4 (F _ (by omega)),M.same h5 (F _ (by omega)),h6.trans M (fun i N e=>by omega)⟩
  ·have F:∀ i,i<w.heap.size+5->¬i=lp:=fun i N=>by omega
   exact .inr ⟨rfl,v,h1,⟨M.same gb (F _ (by omega)),M.same g0 (F _ (by omega)),M.same g1 (F _ (by omega)),M.same g2 (F _ (by omega)),M.same g3 (F _ (by omega))⟩,M.same g4 (F _ (by omega)),M.row y (fun g V e=>et (e▸(s g V).1)),s,U.trans M (fun i N e=>by omega)⟩
 case hC0 =>
  rintro i (h|h|h|h)
  ·exact⟨by omega,by rw[h];exact dg,fun h=>by omega⟩
  all_goals exact⟨by omega,nT i (by omega),fun h=>by omega⟩
 case h0=>exact⟨0,.slice none 0 0,rfl,zG _,zG _,⟨bb,b0,b1,b2,b3⟩,b4,ZL _ _ _ _,fun g V=>(by cases V),kW.up,fun i=>by simp[Value.ownBlock]⟩
 case round =>
  rintro lp au x C W co ⟨rl,er⟩ cn cs ⟨m,v,rfl,hm,ax,⟨gb,g0,g1,g2,g3⟩,g4,y,s,U,hC⟩ dx;have hd:=zC er;have F:∀ i,i<w.heap.size+5->¬i=lp:=fun i N=>by omega
  rcases dx with⟨k,c,e,M,rfl⟩|⟨bad,he,e,dh,cm⟩
  ·have dl:=(zO.1 M).1
   have dv:l≠[]:=fun e=>by rw[e] at M;cases M
   obtain rfl:m=k:=by
    have:=congrArg List.length e;simp at this;omega
   clear e;obtain⟨ck,cv,cg⟩:=c;dsimp only[encI,Ja]
   gi_wp2
   refine⟨ja.alloc W _ _,?_⟩;intro X k2 _;have ka:ja W X (fun i=>i=lp):=((ja.alloc W _ (fun _=>False)).up).tt k2;have hb:=k2.same (je W _) (by omega);have q0:=zA (o:=0) hb;have q1:=zA (o:=1) hb;have q2:=zA (o:=2) hb;have ba:=ka.same gb (F _ (by omega));have bc:=ka.same g0 (F _ (by omega));have ct:=ka.same g1 (F _ (by omega));have ab:=ka.same g2 (F _ (by omega));have aa:=ka.same g3 (F _ (by omega));have c1:=ka.same g4 (F _ (by omega));have a1:=zA (o:=0) ct;have a4:=zA (o:=0) c1;have f4:=zB (o:=0) c1;simp at q0 q1 q2 a1 a4;have J:=ka.row y (fun g V e=>cn ((hC lp).2 (.inr (.inr (.inr (.inr (e▸V)))))));have a9:=jb hC;have ah:ja w X (fun i=>qj ρ i\/i=b):=U.trans ka (fun i N e=>by omega);have cw:=jb ba;have cy:=jb bc;have cx:=jb ct;have bf:=jb ab;have be:=jb aa;have bd:=jb c1;clear gb g0 g1 g2 g3 g4 ba bc ct ab aa c1 hb hC;have eq:W.heap.size+1<=X.heap.size:=by have:=k2.size;simpa using this
   have a8:=Mj M;have ex:=Cz l m;have e1:(l.take m).map Ja++[Ja ⟨ck,cv,cg⟩]=(l.take (m+1)).map Ja:=(ki M).symm;have E1:=jb e1;clear e1;obtain⟨pv,cpv,rfl⟩:=jl J;obtain⟨q,hq⟩:∃ q,q=(kept (l.take m)).length:=⟨_,rfl⟩;obtain⟨L,hL⟩:∃ L,L=kept (l.take m):=⟨_,rfl⟩;have aw:q=L.length:=by rw[hq,hL]
   rw[<-hq] at J ex s a9 a4 bd ax;rw[<-hL] at J a8;clear y;by_cases hfull:q=most
   ·have ao:=jd4 (l:=l) (m:=m) (most:=most) (by rw[<-hq];exact hfull)
    rw[<-hL] at ao;have c8:((kept l).take most).length=q:=by rw[ao,<-aw]
    have es:((q:Int)==(most:Int))=true:=by simp[hfull]
    have ea:=jb ao;have e4:=jb c8;have ai:=jb J;clear ao c8 J hq hL aw a8 hfull
    gi_wp2
    refine⟨C,fun i h=> .inl h,fun i h=>ZH (cs i h) (by omega),ja.refl _ _,.inr ⟨rfl,.slice pv q cpv,dv,⟨cw.out,cy.out,cx.out,bf.out,be.out⟩,bd.out,by rw[e4.out,ea.out];exact ai.out,fun g V=>⟨(a9.out g).2 (.inr (.inr (.inr (.inr V)))),s g V⟩,ah⟩⟩
   ·have es:((q:Int)==(most:Int))=false:=by simp;omega
    have g7:¬((q:Int)=(most:Int)):=by omega
    have ha:q+1<=most:=by omega
    cases cg with
    | true =>
     simp only[if_true,ZC] at a8;have ac:(kept (l.take (m+1))).length=q:=by rw[a8,<-aw]
     have fe:=jb a8;have cd:=jb ac;have ai:=jb J;clear a8 ac J hq hL aw hfull
     gi_wp2
     refine⟨C,fun i h=> .inl h,fun i h=>ZH (cs i h) (by omega),ja.refl _ _,m+1,.slice pv q cpv,E1.out,dl,by rw[cd.out];omega,⟨cw.out,cy.out,cx.out,bf.out,be.out⟩,bd.out,by rw[cd.out,fe.out];exact ai.out,s,ah,a9.out⟩
    | false =>
     rw[if_neg (by simp)] at a8;have ac:(kept (l.take (m+1))).length=q+1:=by rw[a8,zW,<-aw];rfl
     have du:∀(p3:Option Addr) (I:Nat) (T:World),T.ownsRow w.heap.size 65 2 (.slice p3 (q+1) I) (q+1) (qm L++qm [⟨ck,cv,false⟩]) ->
      (X.alloc (.cells #[jf ck,jf cv] 65)).grownBy T (Value.slice pv q cpv).ownBlock->((Value.slice p3 (q+1) I).ownBlock=(Value.slice pv q cpv).ownBlock\/(Value.slice p3 (q+1) I).ownBlock=some (X.alloc (.cells #[jf ck,jf cv] 65)).heap.size) ->
      ∃ C':Nat->Prop,(∀ i,C' i->C i\/W.heap.size<=i)/\(∀ i,C' i->i<(T.setCell ⟨w.heap.size+1+1+1+1,0,none⟩ (.slice p3 (q+1) I)).heap.size)/\ja X (T.setCell ⟨w.heap.size+1+1+1+1,0,none⟩ (.slice p3 (q+1) I)) C /\
       ∃(m':Nat) (v:Value),(l.take m).map Ja++[Ja ⟨ck,cv,false⟩]=(l.take m').map Ja/\m'<=l.length/\(kept (l.take m')).length<=most/\((T.setCell ⟨w.heap.size+1+1+1+1,0,none⟩ (.slice p3 (q+1) I)).heap[b]?=some (.cells (qv (.pointer (some ⟨d,0,none⟩)) (jg z.next) (jg z.last) (jg z.log) (jg z.base) rv last mv ag false) t (0,0))/\(T.setCell ⟨w.heap.size+1+1+1+1,0,none⟩ (.slice p3 (q+1) I)).heap[w.heap.size]?=some (.cells #[.pointer (some ⟨b,0,none⟩)] 49 (0,0))/\(T.setCell ⟨w.heap.size+1+1+1+1,0,none⟩ (.slice p3 (q+1) I)).heap[w.heap.size+1]?=some (.cells #[j6 most] 3 (0,0))/\(T.setCell ⟨w.heap.size+1+1+1+1,0,none⟩ (.slice p3 (q+1) I)).heap[w.heap.size+1+1]?=some (.cells #[.slice none 0 0] 55 (0,0))/\(T.setCell ⟨w.heap.size+1+1+1+1,0,none⟩ (.slice p3 (q+1) I)).heap[w.heap.size+1+1+1]?=some (.cells #[.int .i64 0] 48 (0,0)))/\(T.setCell ⟨w.heap.size+1+1+1+1,0,none⟩ (.slice p3 (q+1) I)).heap[w.heap.size+1+1+1+1]?=some (.cells #[v] 55 (0,0))/\(T.setCell ⟨w.heap.size+1+1+1+1,0,none⟩ (.slice p3 (q+1) I)).ownsRow w.heap.size 65 2 v (kept (l.take m')).length (qm (kept (l.take m')))/\(∀ g,v.ownBlock=some g->w.heap.size+5<=g)/\ja w (T.setCell ⟨w.heap.size+1+1+1+1,0,none⟩ (.slice p3 (q+1) I)) (fun i=>qj ρ i\/i=b)/\(∀ i,C' i↔i=b\/i=w.heap.size+1+1\/i=w.heap.size+1+1+1\/i=w.heap.size+1+1+1+1\/v.ownBlock=some i):=by
      intro p3 I T c0 ay cq
      have kA:ja X (X.alloc (.cells #[jf ck,jf cv] 65)) (fun _=>False):=ja.alloc _ _ _
      have k3:ja X T (fun i=>(Value.slice pv q cpv).ownBlock=some i):=(kA.up).trans (ja.grown ay) (fun i _ e=>e.symm)
      have k4:=ja.setCell T ⟨w.heap.size+1+1+1+1,0,none⟩ (.slice p3 (q+1) I)
      have Y:∀ i,i<w.heap.size+5->¬(Value.slice pv q cpv).ownBlock=some i:=fun i N e=>by have:=s i e;omega
      have ey:=k3.same bd.out (Y _ (by omega))
      have h9:=k3.size
      have gz:=kW.size
      have bi:∀ g,(Value.slice p3 (q+1) I).ownBlock=some g->(Value.slice pv q cpv).ownBlock=some g\/X.heap.size<=g:=by
       intro g V;rcases cq with h|h
       ·exact .inl (h▸V)
       ·rw[h] at V
        cases V;exact .inr (by simp)
      have cz:=k4.row c0 (fun g V e=>by
       have e':g=w.heap.size+1+1+1+1:=e
       rcases bi g V with h|h
       ·exact Y g (by omega) h
       ·omega)
      refine⟨fun i=>i=b\/i=w.heap.size+1+1\/i=w.heap.size+1+1+1\/i=w.heap.size+1+1+1+1\/(Value.slice p3 (q+1) I).ownBlock=some i,?_,?_,?_,m+1,(.slice p3 (q+1) I),E1.out,dl,by rw[ac];omega,⟨?_,?_,?_,?_,?_⟩,?_,?_,?_,?_,fun _=>Iff.rfl⟩
      ·rintro i (h|h|h|h|h)
       ·exact .inl ((a9.out i).2 (.inl h))
       ·exact .inl ((a9.out i).2 (.inr (.inl h)))
       ·exact .inl ((a9.out i).2 (.inr (.inr (.inl h))))
       ·exact .inl ((a9.out i).2 (.inr (.inr (.inr (.inl h)))))
       ·rcases bi i h with h|h
        ·exact .inl ((a9.out i).2 (.inr (.inr (.inr (.inr h)))))
        ·exact .inr (by omega)
      ·intro i h
       have dj:(T.setCell ⟨w.heap.size+1+1+1+1,0,none⟩ (.slice p3 (q+1) I)).heap.size=T.heap.size:=by simp[World.setCell]
       rw[dj];rcases h with h|h|h|h|h
       ·omega
       ·omega
       ·omega
       ·omega
       ·exact(c0.lt i h).2
      ·exact(k3.mono (fun i _ h=>(a9.out i).2 (.inr (.inr (.inr (.inr h)))))).trans k4 (fun i _ e=>(a9.out i).2 (.inr (.inr (.inr (.inl e)))))
      ·exact k4.same (k3.same cw.out (Y _ (by omega))) (by simp<;>omega)
      ·exact k4.same (k3.same cy.out (Y _ (by omega))) (by simp<;>omega)
      ·exact k4.same (k3.same cx.out (Y _ (by omega))) (by simp<;>omega)
      ·exact k4.same (k3.same bf.out (Y _ (by omega))) (by simp<;>omega)
      ·exact k4.same (k3.same be.out (Y _ (by omega))) (by simp)
      ·exact(jd ey _).trans rfl
      ·rw[ac,a8,Qo];exact cz
      ·intro g V
       rcases bi g V with h|h
       ·exact s g h
       ·omega
      ·exact(ah.trans k3 (fun i N e=>by have:=s i e;omega)).trans k4 (fun i N e=>by have e':i=w.heap.size+1+1+1+1:=e;omega)
     have dr:q+1<=maxLen:=by unfold maxLen;omega
     have dp:(q+1)*32<=140737488355328:=by omega
     have dq:w.heap.size<=(X.alloc (.cells #[jf ck,jf cv] 65)).heap.size:=by simp;have:=kW.size;omega
     have c7:∀ j u,(qm [⟨ck,cv,false⟩])[j]?=some u->(X.alloc (.cells #[jf ck,jf cv] 65)).cell? ((⟨X.heap.size,0,none⟩:Addr).add j)=some u:=J8 (je X _) rfl;have c5:=Nk [⟨ck,cv,false⟩];obtain⟨j0,hj,ep,eo,en⟩:=info_parts Tryz.jd8
     have a7:∀ T:World,(X.alloc (.cells #[jf ck,jf cv] 65)).grownBy T (Value.slice pv q cpv).ownBlock->T.cell? ⟨w.heap.size+1+1+1+1,0,none⟩=some (.slice pv q cpv)/\T.frozen? ⟨w.heap.size+1+1+1+1,0,none⟩=false:=by
      intro T ay;have dt:=(ja.grown ay).same ((ja.alloc X (.cells #[jf ck,jf cv] 65) (fun _=>False)).same bd.out id) (fun e=>by have:=s _ e.symm;omega);exact⟨(zA dt).trans rfl,zB dt⟩
     have fa:=jb a7;have e6:=jb du;have fl:=jb dr;have fk:=jb dp;have e9:=jb dq;have e3:=jb c7;have e0:=jb c5;have ai:=jb (J.alloc (.cells #[jf ck,jf cv] 65));clear a7 du dr dp dq c7 c5 a8 ac hq hL aw J
     gi_wp2_with (gi_at_builtin;refine Xa _ rfl (.tmp 37) (.tmp 43) 55 rfl w.heap.size 65 j0 prZ 2 32 underlying55 hj ep eo en rfl (ZM 1) (.slice pv q cpv) q (qm L) rfl ai.out ⟨X.heap.size,0,none⟩ 1 1 (qm [⟨ck,cv,false⟩]) rfl rfl e3.out e0.out fl.out fk.out e9.out ?_;intro p3 I T c0 ay cq;obtain⟨hp,ho⟩:=fa.out T ay)
     exact e6.out p3 I T c0 ay cq
  ·obtain⟨x1,ev⟩:=x
   simp only at dh cm;subst dh;obtain⟨tv,av,rfl⟩:=cm.shape;dsimp only[encI,eu]
   gi_wp2
   refine⟨ja.alloc W _ _,?_⟩;intro X k2 _;have ka:ja W X (fun i=>i=lp):=((ja.alloc W _ (fun _=>False)).up).tt k2;have ba:=ka.same gb (F _ (by omega));have bc:=ka.same g0 (F _ (by omega));have ab:=ka.same g2 (F _ (by omega));have aa:=ka.same g3 (F _ (by omega));have a0:=zA (o:=0) bc;simp at a0;have ca:=gx ba;have fj:=jb ca;have bf:=jb ab;have be:=jb aa;have HC:=jb hC;clear gb g0 g1 g2 g3 g4 ba bc ab aa hC cm ca;have ah:ja w X (fun i=>qj ρ i\/i=b):=U.trans ka (fun i N e=>by omega);have eq:W.heap.size+1<=X.heap.size:=by have:=k2.size;simpa using this
   gi_wp2_with fail
   refine⟨trivial,((callsIn_wide.2 fj.out).inRound lp).mono ?_⟩;rintro e w5 ⟨rfl,ds,k5⟩;have ab:=k5.same bf.out (by omega);have aa:=k5.same be.out (by omega);have a2:=zA (o:=0) ab;have f2:=zB (o:=0) ab;have a3:=zA (o:=0) aa;have f3:=zB (o:=0) aa;simp at a2 a3;have fg:=jb ab;have ff:=jb aa;have fn:=jb ds;clear ab aa ds;have h8:=k5.size
   gi_wp2
   refine⟨C,fun i h=> .inl h,fun i h=>?_,?_,.inl ⟨rfl,by rw[he];simp,?_,?_,?_,?_⟩⟩
   ·have:=cs i h
    have dj:((w5.setCell ⟨w.heap.size+1+1,0,none⟩ (.slice none 0 0)).setCell ⟨w.heap.size+1+1+1,0,none⟩ (.int .i64 1)).heap.size=w5.heap.size:=by simp[World.setCell]
    omega
   ·exact((k5.mono (fun i _ e=>(HC.out i).2 (.inl e))).set (p:=⟨w.heap.size+1+1,0,none⟩) ((HC.out _).2 (.inr (.inl rfl))) _).set (p:=⟨w.heap.size+1+1+1,0,none⟩) ((HC.out _).2 (.inr (.inr (.inl rfl)))) _
   ·exact(ja.setCell _ _ _).same ((ja.setCell _ _ _).same fn.out (by simp<;>omega)) (by simp<;>omega)
   ·exact(ja.setCell _ _ _).same ((jd fg.out _).trans rfl) (by simp)
   ·exact(jd ((ja.setCell w5 ⟨w.heap.size+1+1,0,none⟩ (.slice none 0 0)).same ff.out (by simp)) _).trans rfl
   ·exact((ah.trans k5 (fun i N e=> .inr e)).Xd (p:=⟨w.heap.size+1+1,0,none⟩) (by simp<;>omega) _).Xd (p:=⟨w.heap.size+1+1+1,0,none⟩) (by simp<;>omega) _
 case done =>
  rintro D' lp C xs X W hD co F b9 cn ⟨DK,c9⟩ M ⟨m,v,e,hm,ax,O,g4,y,s,U,hC⟩ hK;have a1:=zA (o:=0) O.2.2.2.1;have f1:=zB (o:=0) O.2.2.2.1;have a2:=zA (o:=0) O.2.2.2.2;have f2:=zB (o:=0) O.2.2.2.2;have a3:=zA (o:=0) g4;simp at a1 a2 a3;have cu:=jb O;have HC:=jb hC;clear O g4 hC
  have ew:m=l.length/\err=none:=by
   rcases c9 with⟨h1,h2⟩|⟨bad,ev,h1,⟨t,a,rfl⟩,h2⟩
   ·rw[e] at h2
    have:=congrArg List.length h2;simp at this;exact⟨by omega,h1⟩
   ·rw[e] at h2
    have h3:(eu,Value.iface t (.pointer (some a)))∈(l.take m).map Ja:=by rw[h2];simp
    obtain⟨c,_,h4⟩:=zS.1 h3;cases h4
  obtain⟨rfl,dw⟩:=ew;rw[xR] at y ax;rw[<-xF ax] at y;obtain⟨pv,cpv,rfl⟩:=jl y;have fi:=jb DK;clear c9 DK e;obtain⟨z1,z2,z3,z4⟩:=bj (W:=W) (D:=D') (.inl dw) hD (fun h=>b9 ((HC.out D').2 (.inr (.inr (.inr (.inr h)))))) hK (fi.out.apart M (fun i N e=>by rw[e];exact⟨nT lp (by omega),by omega⟩)) cu.out y s U;have Z1:=jb z1;have Z2:=jb z2;have Z3:=jb z3;have Z4:=jb z4;clear z1 z2 z3 z4;generalize ((kept l).take most).length=q at *
  gi_wp2
  have z2:=Z2.out;have z3:=Z3.out;refine⟨by simp,.inl ⟨_,_,rfl,run_takeDeferred Z1.out,?_⟩⟩;exact⟨.tuple #[.slice pv q cpv,.int .i64 0],(by simp[results,Tryz.results29,go_sem,z2,z3]),Z4.out⟩
 case stop =>
  rintro D' lp C c au X W hD co F b9 cn DK M (⟨rfl,h1,h3,h4,h5,h6⟩|⟨rfl,v,h1,O,g4,y,s,U⟩) hK
  ·gi_wp2
   have k9:=ja.putObj W D' (.deferred none);have r4:=zA (o:=0) (k9.same h4 (by omega));have r5:=zA (o:=0) (k9.same h5 (by omega));simp at r4 r5;refine⟨by simp,.inl ⟨_,_,rfl,run_takeDeferred hK,?_⟩⟩;refine⟨.tuple #[.slice none 0 0,.int .i64 1],(by simp[results,Tryz.results29,go_sem,r4,r5]),h6.trans k9 (fun i N e=>by omega),?_,.inr ⟨h1,rfl,k9.same h3 (by omega)⟩⟩;exact(DK.apart M (fun i N e=>by rw[e];exact⟨nT lp (by omega),by omega⟩)).apart k9 (fun i N e=>by rw[e];exact⟨nT D' (by omega),by omega⟩)
  ·have a1:=zA (o:=0) O.2.2.2.1
   have f1:=zB (o:=0) O.2.2.2.1;have a2:=zA (o:=0) O.2.2.2.2;have f2:=zB (o:=0) O.2.2.2.2;have a3:=zA (o:=0) g4;simp at a1 a2 a3;have cu:=jb O;clear O g4;obtain⟨pv,cpv,rfl⟩:=jl y;obtain⟨z1,z2,z3,z4⟩:=bj (W:=W) (D:=D') (.inr h1) hD (fun h=>b9 (s D' h).1) hK (DK.apart M (fun i N e=>by rw[e];exact⟨nT lp (by omega),by omega⟩)) cu.out y (fun g V=>(s g V).2) U;have Z1:=jb z1;have Z2:=jb z2;have Z3:=jb z3;have Z4:=jb z4;clear z1 z2 z3 z4;generalize ((kept l).take most).length=q at *
   gi_wp2
   have z2:=Z2.out;have z3:=Z3.out;refine⟨by simp,.inl ⟨_,_,rfl,run_takeDeferred Z1.out,?_⟩⟩;exact⟨.tuple #[.slice pv q cpv,.int .i64 0],(by simp[results,Tryz.results29,go_sem,z2,z3]),Z4.out⟩
end Go.Proofs.YtnipbplghijdmaaGreatDoor
namespace Go.Proofs.YtnipbplghijdmaaGreatDoor
open RowKit Maps Go.Proofs.Tryz
variable {W:World} {Ds:List Nat}
def marks(Ds:List Nat):List Deferred:=Ds.map fun D=>{ target:= .collected D,args:=#[] }
def Ah(W:World):List Nat->World
 | []=>W
 | D::r=>Ah (W.putObj D (.deferred none)) r
theorem Yb(W:World)(Ds:List Nat):ja W (Ah W Ds) (fun i=>i∈Ds):=by
 induction Ds generalizing W with
 | nil=>exact ja.refl _ _
 | cons D r ih=>exact((ja.putObj W D _).mono (fun i _ e=>by rw[e];exact zR)).trans (ih _) (fun i _ h=>zQ _ h)
def J4(W:World)(Ds:List Nat):Prop:=Ds.Nodup/\∀ D∈Ds,W.heap[D]?=some (.deferred (some []))
theorem J4.nil(W:World):J4 W []:=⟨List.nodup_nil,fun D h=>by cases h⟩
theorem J4.keep{b:World}{T:Nat->Prop}(h:J4 W Ds)(k:ja W b T)(c:∀ D∈Ds,¬T D):J4 b Ds:=⟨h.1,fun D hD=>k.same (h.2 D hD) (c D hD)⟩
theorem J4.cons{D:Nat}(h:J4 W Ds)(d:W.heap[D]?=some (.deferred (some [])))(c:D∉Ds):J4 W (D::Ds) :=
 ⟨XE.2 ⟨c,h.1⟩,fun E b=>by
  rcases zF.1 b with rfl|b
  ·exact d
  ·exact h.2 E b⟩
theorem Zc{F:Fence}{n:Nat}{P:Program}{fn:Func}{tmps:Array Value}{R:Ending->World->Prop}{u:FrameMode}(c:u≠ .run)(h:J4 W Ds)(b:LeavesInM F n P fn tmps R [] u (Ah W Ds)):LeavesInM F n P fn tmps R (marks Ds) u W:=by
 induction Ds generalizing W with
 | nil=>exact b
 | cons D r ih =>
  refine⟨c,.inl ⟨D,_,rfl,run_takeDeferred (h.2 D zR),ih ⟨(XE.1 h.1).2,fun E hE=>?_⟩ b⟩⟩;exact(ja.putObj W D _).same (h.2 E (zQ _ hE)) (fun e=>(XE.1 h.1).1 (e▸hE))
end Go.Proofs.YtnipbplghijdmaaGreatDoor
namespace Go.Proofs.YtnipbplghijdmaaGreatDoor
open RowKit Maps WideShapes Go.Proofs.Tryz
variable {E:Nat->Addr} {B b d k:Nat} {w:World} {sts:List J5} {st:J5} {c:Rf.Ch}
def zy(key:Str):List J5->jc->jc×(Option Rf.Ch ⊕ Bool)
 | [],S=>(S,.inl none)
 | st::r,S =>
  match (st S).2.1 with
  | c::_=>if c.key=key then((st S).1,.inl (some c))else zy key r (st S).1
  | [] =>
   match (st S).2.2 with
   | some bad=>((st S).1,.inr bad)
   | none=>zy key r (st S).1
theorem bh(key:Str)(st:J5)(r:List J5)(S:jc):zy key (st::r) S =
 match (st S).2.1 with
 | c::_=>if c.key=key then((st S).1,.inl (some c))else zy key r (st S).1
 | [] =>
  match (st S).2.2 with
  | some bad=>((st S).1,.inr bad)
  | none=>zy key r (st S).1:=rfl
def Cf(P:jc->Prop)(E:Nat->Addr)(B:Nat)(ρ:Nat->j3)(d:Nat)(w:World)(f:Value)(st:J5):Prop :=
 ∀(W:World) (S:jc),ja w W (qj ρ)->Dk E B W ρ d S->P S->P (st S).1 /\
  ∃(gf:Nat) (rv lb:Array Value) (Needs:Nat->Prop) (Start:World->Prop),f = .func (.func gf) rv lb/\(∀ ys w,(callFunc gf ys).run prog w = .ok (.enter gf ys) w) /\
   (∀ n,Kj Fence.wide n prog gf rv lb encI (qj ρ) Needs Start (je8 E (st S).2.1 (st S).2.2) (je6 E B ρ d (st S).1 (st S).2.1 (st S).2.2) (Ls E B ρ d (st S).1)) /\
   (∀ i,Needs i->i<w.heap.size)/\(∀ W',ja W W' (fun _=>False)->Start W')
theorem jh7{P:jc->Prop}{ρ:Nat->j3}{v:Value}{l:List Rf.Ch}(f:Chs w v l)(j:l.length<1048576)(g:∀ p n c,v = .slice (some p) n c->¬qj ρ p.block/\p.block<w.heap.size)(m:B<=w.heap.size):Cf P E B ρ d w (Bx v) (Y2 l):=by
 intro W S k D Z;have b:Chs W v l:=f.keep k (fun _ p n c e=>(g p n c e).1);refine⟨Z,_,_,_,jah B v,(fun W=>Chs W v l/\Dk E B W ρ d S),rfl,fo,fun n=>fg v l j,fun i hi=>?_,fun W' k'=>⟨b.same k',D.same k'⟩⟩;rcases hi with h|⟨p,n,c,e,rfl⟩
 ·omega
 ·exact(g p n c e).2
theorem jh5{P:jc->Prop}{ρ:Nat->j3}{m:Nat}{key:Str}{b:List (List Rf.Ch)}(f:B<=w.heap.size)(j:m<=9223372036854775807)(c:(Rf.zz b).length<1099511627776)(l:∀ S,P S->P (S.called false)/\Small S/\Bh S (jo m) b):Cf P E B ρ d w (Yo d m key) (Y9 b key):=by
 intro W S k D Z;obtain⟨q,p,o⟩:=l S Z
 have g:(jo m).length<1099511627776:=by
  have:=yj j;unfold jo;rw[zW];simp;omega
 exact⟨q,_,_,_,(fun i=>i<B),Wh E B ρ d S (jo m) b,rfl,u7,fun n=>uq (jo m) key b g c,fun i hi=>ZH hi f,fun W' k'=>⟨D.same k',p,o⟩⟩
def je5(P:jc->Prop)(E:Nat->Addr)(B:Nat)(ρ:Nat->j3)(d:Nat)(w:World)(G:jc×(Option Rf.Ch ⊕ Bool))(e:Ending)(w':World):Prop :=
 ja w w' (qj ρ)/\Dk E B w' ρ d G.1/\P G.1 /\
 ((∃ c,G.2 = .inl (some c)/\e = .returned (.tuple #[chV c,.bool true,.nilIface]))\/(G.2 = .inl none/\e = .returned (.tuple #[chV eu,.bool false,.nilIface])) \/
  (∃ bad ev,G.2 = .inr bad/\e = .returned (.tuple #[chV eu,.bool false,ev])/\lu E w' ev bad))
theorem C4{key:Str}{S:jc}(h:sts[k]?=some st)(d:∀ c r,(st S).2.1=c::r->c.key≠key)(b:(st S).2.1=[]->(st S).2.2=none):zy key (sts.drop k) S=zy key (sts.drop (k+1)) (st S).1:=by
 have g:=(zO.1 h).1
 have e:sts.drop k=st::sts.drop (k+1):=by
  have f:sts[k]=st:=(zO.1 h).2;rw[<-f,xX]
 rw[e,bh]
 cases hl:(st S).2.1 with
 | cons c r=>simp only;rw[if_neg (d c r hl)]
 | nil=>simp only;rw[b hl]
theorem Mm{key:Str}{S:jc}(h:sts[k]?=some st):zy key (sts.drop k) S=zy key (st::sts.drop (k+1)) S:=by
 have e:sts.drop k=st::sts.drop (k+1):=by
  have b:sts[k]'((zO.1 h).1)=st:=(zO.1 h).2;rw[<-b,xX]
 rw[e]
theorem Vs{key:Str}{S:jc}{r:List Rf.Ch}(h:sts[k]?=some st)(d:(st S).2.1=c::r)(b:c.key=key):zy key (sts.drop k) S=((st S).1,.inl (some c)):=by
 rw[Mm h,bh,d];simp only;rw[if_pos b]
theorem Vt{key:Str}{S:jc}{bad:Bool}(h:sts[k]?=some st)(c:(st S).2.1=[])(b:(st S).2.2=some bad):zy key (sts.drop k) S=((st S).1,.inr bad):=by
 rw[Mm h,bh,c];simp only;rw[b]
theorem jbl{x:Bool}(h:w.heap[b]?=some (.cells #[.bool x] 4 (0,0))):(loadVar 4 ⟨b,0,none⟩).run prog w = .ok (.bool x) w:=by
 have c:=zA (o:=0) h;simp at c;go_simp
theorem Sa{x:Value}(h:w.heap[b]?=some (.cells #[x] 128 (0,0))):(loadVar 128 ⟨b,0,none⟩).run prog w = .ok x w:=by
 have c:=zA (o:=0) h;simp at c;go_simp
theorem mc{fn:Func}{t u x:Tmp}(h:fn.results=#[.cell t 88,.cell u 4,.cell x 128]){tmps:Array Value}{b' d:Nat}{j:Bool}{k:Value}(q:tmps.getD t undef = .pointer (some ⟨b,0,none⟩))(p:tmps.getD u undef = .pointer (some ⟨b',0,none⟩))(o:tmps.getD x undef = .pointer (some ⟨d,0,none⟩))(v:w.heap[b]?=some (.cells #[jf c.key,jf c.value,.bool c.gone] 88 (0,0)))(s:w.heap[b']?=some (.cells #[.bool j] 4 (0,0)))(r:w.heap[d]?=some (.cells #[k] 128 (0,0))) :
 (results fn tmps).run prog w = .ok (.tuple #[chV c,.bool j,k]) w:=by
 have n:=N6 v;have m:=jbl s;have l:=Sa r;have i:tmps[t]?.getD undef = .pointer (some ⟨b,0,none⟩):=by simpa using q
 have g:tmps[u]?.getD undef = .pointer (some ⟨b',0,none⟩):=by simpa using p
 have f:tmps[x]?.getD undef = .pointer (some ⟨d,0,none⟩):=by simpa using o
 simp[results,h,i,g,f,asAddr,n,m,l]
end Go.Proofs.YtnipbplghijdmaaGreatDoor
