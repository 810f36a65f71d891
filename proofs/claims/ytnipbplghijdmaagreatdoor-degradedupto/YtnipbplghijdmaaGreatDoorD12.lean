/-
  D: FrameTake.
-/
import Derived.BigQuiet
import Derived.Test.YtnipbplghijdmaaGreatDoorD11
set_option maxRecDepth 100000
set_option maxHeartbeats 8000000
set_option linter.unusedVariables false
set_option linter.unusedSimpArgs false
namespace Go.Proofs.YtnipbplghijdmaaGreatDoor
open RowKit Maps WideShapes Go.Proofs.Tryz
variable {a b c w:World} {B r:Nat} {v:Value} {h l q:List UInt8} {E:Nat->Addr}
theorem ja.drewN(w:World)(n:Nat)(T:Nat->Prop):ja w (w.drewN n) T:=by
 induction n with
 | zero=>exact ja.refl _ _
 | succ n ih=>exact ih.tt (ja.drew _ T)
theorem Xx(h:ja a b (fun i=>i=r))(k:ja b c (fun i=>i=r)):ja a c (fun i=>i=r):=h.tt k
theorem Qi(h:ja a b (fun _=>False)):ja a b (fun i=>i=r):=h.up
theorem Bytes.string(h:Bytes w v l):(convert 84 9 v).run prog w = .ok (jf l) w:=by
 obtain⟨p,c,rfl,i,g,f,d⟩:=h
 cases p with
 | none =>
  have:c=0:=f rfl;have b:l=[]:=zT (by omega);subst b;rw[run_convert_bytes_string w _ _ _ none _ c underlying84 underlying5 underlying9];simp[Conv.bytesToString];rfl
 | some ad=>exact run_convert_bytes_back w _ _ _ ad c l underlying84 underlying5 underlying9 (fun j hj=>(d ad rfl).2 j l[j] (by simp[hj]))
theorem gi{t:List UInt8}(s:Rd w r l)(b:Rf.ya l=some (t,q)) :
 Calls prog 276 #[.pointer (some ⟨r,0,none⟩)] w fun e w'=>e = .returned (.tuple #[jf t,.nilIface])/\Rd w' r q/\ja w w' (fun i=>i=r):=by
 cases l with
 | nil=>cases b
 | cons n m =>
  simp only[Rf.ya] at b
  split at b
  ·rename_i hle
   cases b;have A:=n.toNat_lt;go_enter func276,ntmps276;go_wp2_with fail;refine(yo (n:=1) s (by simp) (by omega)).mono ?_;rintro e y ⟨rfl,d,k⟩;have v:Rf.number ((n::m).take 1)=n.toNat:=by simp[Rf.number]
   rw[v];rw[show(n::m).drop 1=m from rfl] at d;go_wp2_with fail;refine(Wu (n:=n.toNat) d hle).mono ?_;rintro e x ⟨z,rfl,g,f,j⟩;have o:=g.string;obtain⟨p,c,rfl,_⟩:=g;have u:(m.take n.toNat).length=n.toNat:=by simp;omega
   rw[u] at o ⊢;go_wp2;go_ret2;exact⟨rfl,f,Xx k j⟩
  ·cases b
theorem Fu(S:Xg E B w)(u:B<=r)(k:Rd w r l)(j:Rf.ya l=none) :
 Calls prog 276 #[.pointer (some ⟨r,0,none⟩)] w fun e w'=>∃ v,e = .returned (.tuple #[jf [],v])/\Err E w' v 7/\ja w w' (fun i=>i=r):=by
 cases l with
 | nil =>
  go_enter func276,ntmps276;go_wp2_with fail;refine(Qq (n:=1) S k (by simp) (by omega)).mono ?_;rintro e p ⟨v,rfl,d,b,f⟩;obtain⟨t,a,rfl⟩:=d.shape;go_wp2_with fail;refine(zw _ d).mono ?_;rintro e o ⟨q,rfl,c,g⟩;go_wp2;go_ret2;exact⟨_,rfl,c,Xx (Qi f) (Qi g)⟩
 | cons n m =>
  simp only[Rf.ya] at j
  split at j
  ·cases j
  ·rename_i hle
   have C:n.toNat<256:=n.toNat_lt;go_enter func276,ntmps276;go_wp2_with fail;refine(yo (n:=1) k (by simp) (by omega)).mono ?_;rintro e p ⟨rfl,b,f⟩;have x:Rf.number ((n::m).take 1)=n.toNat:=by simp[Rf.number]
   rw[x];rw[show(n::m).drop 1=m from rfl] at b;have y:=S.keep f (fun i e=>by rw[e];exact u);go_wp2_with fail;refine(Fv (n:=n.toNat) y b (by omega) (by omega)).mono ?_;rintro e o ⟨v,rfl,d,z,g⟩;obtain⟨t,a,rfl⟩:=d.shape;go_wp2_with fail;refine(zw _ d).mono ?_;rintro e A ⟨q,rfl,c,s⟩;go_wp2;go_ret2;exact⟨_,rfl,c,Xx f (Xx (Qi g) (Qi s))⟩
theorem Rf.ox(e:Rf.xh l=some (h,q)):8<=l.length/\8+Rf.number (l.take 4)<=l.length/\Rf.sum h=Rf.number ((l.drop 4).take 4)/\h=(l.drop 8).take (Rf.number (l.take 4))/\q=(l.drop 8).drop (Rf.number (l.take 4)):=by
 unfold Rf.xh at e
 split at e
 ·rename_i hc
  cases e;exact⟨hc.1,hc.2.1,hc.2.2,rfl,by rw[zU]⟩
 ·cases e
theorem Ac{G:Nat->Prop}(V:Bytes w v l)(W:l≠[]->∀ p n c,v = .slice (some p) n c->G p.block)(I:Rf.xh l=some (h,q))(hl:l.length<1099511627776) :
 Calls prog 240 #[v] w fun e w'=>∃ v1,Bytes w' v1 h/\(∃ v2,Bytes w' v2 q/\(q≠[]->∀ p n c,v2 = .slice (some p) n c->G p.block)/\e = .returned (.tuple #[v1,v2,.nilIface]))/\ja w w' (fun _=>False):=by
 obtain⟨X,L,J,D,t⟩:=Rf.ox I;go_enter func240,ntmps240;go_wp2_with fail;refine(Ap v l w V W).mono ?_;rintro e w1 ⟨r,rfl,a2,H,T⟩;go_wp2_with fail;refine(yo (n:=4) H (by omega) (by omega)).mono ?_;rintro e w2 ⟨rfl,F,S⟩;go_wp2_with fail;refine(yo (n:=4) F (by simp;omega) (by omega)).mono ?_;rintro e f ⟨rfl,y,R⟩;rw[zU] at y;obtain⟨u,g,s,j⟩:=y;obtain⟨p,c,rfl,M,Y,U⟩:=id s;clear U;unfold maxLen at Y;simp only[Nat.reduceAdd] at g s M j;have z:(l.drop 8).length=l.length-8:=by simp
 generalize l.drop 8=m at g s M z D t j;have C:Hid (q≠[]->∀ ad,p=some ad->G ad.block):=fun hq ad e=>(j (fun em=>hq (by rw[t,em];simp)) ad _ _ (by rw[e])).2;clear j;have Z:=zA (o:=0) g;simp at Z;rw[<-J];have a0:=Rf.M5 h;generalize Rf.number (l.take 4)=N at L D t ⊢;have B:N<=m.length:=by omega
 have O:m.length<1099511627776:=by omega
 have a1:((Rf.sum h:Nat):Int)%18446744073709551616=(Rf.sum h:Nat):=by omega
 clear z L X I;have d:=s.take N B;have b:=s.drop N B;rw[<-D] at d;rw[<-t] at b;have x:ja w f (fun _=>False):=(T.trans S (fun i hi e=>by subst e;omega)).trans R (fun i hi e=>by have h:=e;omega);have a3:N<=c:=by omega
 have k:c=N\/¬c=N:=by omega
 clear s g D t J;rcases k with rfl|k
 ·have A:m.length=c:=by omega
  simp only[if_true,Nat.sub_self,A] at b;clear A;go_wp2_with fail;go_quiet (fail);go_wp2_with fail;have E:=x.tt (ja.drewN f nq _);refine(E6 _ h _ (d.same (ja.drewN f nq _))).mono ?_;rintro e w' ⟨rfl,rfl⟩;go_wp2;go_ret3;exact⟨_,d.same (ja.drewN f nq _),⟨_,b.same (ja.drewN f nq _),(fun hq p' n' c' e=>by cases e;exact C.out hq _ rfl),rfl⟩,E⟩
 ·simp only[if_neg k] at b
  go_wp2_with fail;go_quiet (fail);go_wp2_with fail;have E:=x.tt (ja.drewN f nq _);refine(E6 _ h _ (d.same (ja.drewN f nq _))).mono ?_;rintro e w' ⟨rfl,rfl⟩;go_wp2;go_ret3
  exact⟨_,d.same (ja.drewN f nq _),⟨_,b.same (ja.drewN f nq _),(fun hq p' n' c' e=>by
   cases p with
   | none=>cases e
   | some a=>cases e;rw[Ju];exact C.out hq _ rfl),rfl⟩,E⟩
theorem Ab(b:Bytes w v l)(c:Rf.xh l=some (h,q))(d:l.length<1099511627776) :
 Calls prog 240 #[v] w fun e w'=>∃ v1,Bytes w' v1 h/\(∃ v2,Bytes w' v2 q/\e = .returned (.tuple #[v1,v2,.nilIface]))/\ja w w' (fun _=>False):=by
 refine(Ac (G:=fun _=>True) b (fun _ _ _ _ _=>trivial) c d).mono ?_;rintro e w' ⟨v1,i,⟨v2,g,_,f⟩,k⟩;exact⟨v1,i,⟨v2,g,f⟩,k⟩
def Sz:List Nat:=[7,8,4,3]
def fw(E:Nat->Addr)(w:World)(v:Value):Prop:=∃ k∈Sz,Err E w v k
theorem fw.same{w':World}(h:fw E w v)(b:ja w w' (fun _=>False)):fw E w' v:=by
 obtain⟨k,d,c⟩:=h;exact⟨k,d,c.same b⟩
theorem fw.shape(h:fw E w v):∃ t a,v = .iface t (.pointer (some a)):=h.choose_spec.2.shape
theorem fw.of{k:Nat}(h:Err E w v k)(b:k∈Sz):fw E w v:=⟨k,b,h⟩
theorem nh(s:ByteArray)(h:fw E w v) :
 Calls prog 128 #[.string s,v] w fun e w'=>∃ v',e = .returned v'/\fw E w' v'/\ja w w' (fun _=>False):=by
 obtain⟨k,f,d⟩:=h;refine(zw s d).mono ?_;rintro e w' ⟨v',rfl,c,b⟩;exact⟨v',rfl,⟨k,f,c⟩,b⟩
theorem Zd(h:ja a b (fun _=>False))(d:a.heap.size<=r)(k:ja b c (fun i=>i=r)):ja a c (fun _=>False):=h.trans k (fun i hi e=>by subst e;omega)
theorem ui(S:Xg E B w)(hB:B<=w.heap.size)(hv:Bytes w v l)(O:Rf.xh l=none)(hl:l.length<1099511627776) :
 Calls prog 240 #[v] w fun e w'=>∃ v1,e = .returned (.tuple #[.slice none 0 0,.slice none 0 0,v1])/\fw E w' v1/\ja w w' (fun _=>False):=by
 go_enter func240,ntmps240;go_wp2_with fail;refine(Xk v l w hv).mono ?_;rintro e w1 ⟨r,rfl,A,C,U⟩;have S1:=S.same U;rcases zV l.length 4 with h4|h4
 ·go_wp2_with fail
  refine(Qq (n:=4) S1 C (by omega) (by omega)).mono ?_;rintro e w2 ⟨v2,rfl,z,k,T⟩;obtain⟨t,a,rfl⟩:=z.shape;go_wp2_with fail;refine(zw _ z).mono ?_;rintro e L ⟨R,rfl,b,y⟩;go_wp2;go_ret3;exact⟨_,rfl,⟨_,by decide,b⟩,(U.tt T).tt y⟩
 ·go_wp2_with fail
  refine(yo (n:=4) C (by omega) (by omega)).mono ?_;rintro e w2 ⟨rfl,k,T⟩;have i:=Zd U A T;have S2:=S.same i;rcases zV l.length 8 with Z|Z
  ·go_wp2_with fail
   refine(Qq (n:=4) S2 k (by simp;omega) (by omega)).mono ?_;rintro e L ⟨v2,rfl,z,j,y⟩;obtain⟨t,a,rfl⟩:=z.shape;go_wp2_with fail;refine(zw _ z).mono ?_;rintro e Y ⟨R,rfl,b,x⟩;go_wp2;go_ret3;exact⟨_,rfl,⟨_,by decide,b⟩,(i.tt y).tt x⟩
  ·go_wp2_with fail
   refine(yo (n:=4) k (by simp;omega) (by omega)).mono ?_;rintro e L ⟨rfl,j,y⟩;have g:=Zd i A y;have S3:=S.same g;have s7:=S3.cell 7 (by decide);have s8:=S3.cell 8 (by decide);rw[zU] at j;obtain⟨u,f,s,_⟩:=j;obtain⟨p,c,rfl,h1,h2,hx⟩:=id s;clear hx;unfold maxLen at h2;simp only[Nat.reduceAdd] at f s h1;have D:(l.drop 8).length=l.length-8:=by simp
   have d:¬(Rf.number (l.take 4)<=(l.drop 8).length/\Rf.sum ((l.drop 8).take (Rf.number (l.take 4)))=Rf.number ((l.drop 4).take 4)):=by
    rintro⟨e1,e2⟩;unfold Rf.xh at O;rw[if_pos ⟨Z,by omega,e2⟩] at O;cases O
   have H:=Rf.Zz (l.take 4);rw[show(l.take 4).length=4 by simp;omega] at H;have I:=Rf.Zz ((l.drop 4).take 4);rw[show((l.drop 4).take 4).length=4 by simp;omega] at I;generalize l.drop 8=m at f s h1 D d;have c0:=zA (o:=0) f;simp at c0;generalize Rf.number (l.take 4)=N at d H ⊢;generalize Rf.number ((l.drop 4).take 4)=M at d I ⊢;have a2:m.length<1099511627776:=by omega
   clear D O;rcases zV m.length N with q|q
   ·clear s f d
    go_wp2_with fail;refine(zw _ (.base (E:=E) 7 (by decide))).mono ?_;rintro e Y ⟨R,rfl,b,x⟩;go_wp2;go_ret3;exact⟨_,rfl,⟨_,by decide,b⟩,g.tt x⟩
   ·have X:¬Rf.sum (m.take N)=M:=fun e=>d ⟨q,e⟩
    have G:=s.take N q;have V:=Rf.M5 (m.take N);have W:((Rf.sum (m.take N):Nat):Int)%18446744073709551616=(Rf.sum (m.take N):Nat):=by omega
    have J:(((Rf.sum (m.take N):Nat):Int)==(M:Int))=false:=by simp;omega
    generalize m.take N=h at G V W J X;have ae:N<=c:=by omega
    have F:c=N\/¬c=N:=by omega
    clear s f d;rcases F with rfl|F
    all_goals
     go_wp2_with fail;go_quiet (fail);go_wp2_with fail;have kd:=g.tt (ja.drewN L nq _);refine(E6 _ h _ (G.same (ja.drewN L nq _))).mono ?_;rintro e w' ⟨rfl,rfl⟩;go_wp2_with fail;refine(zw _ (.base (E:=E) 8 (by decide))).mono ?_;rintro e Y ⟨R,rfl,b,x⟩;go_wp2;go_ret3;exact⟨_,rfl,⟨_,by decide,b⟩,kd.tt x⟩
end Go.Proofs.YtnipbplghijdmaaGreatDoor
