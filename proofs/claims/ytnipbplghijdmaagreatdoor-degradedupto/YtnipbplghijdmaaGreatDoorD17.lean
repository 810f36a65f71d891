/-
  D: ManCheck ManAll Search.
-/
import Derived.Sort.OwnSortedInts
import Derived.Test.YtnipbplghijdmaaGreatDoorD16
set_option maxRecDepth 100000
set_option maxHeartbeats 8000000
set_option linter.unusedVariables false
set_option linter.unusedSimpArgs false
namespace Go.Proofs.YtnipbplghijdmaaGreatDoor
open RowKit Maps WideShapes Go.Sort Go.Proofs.Tryz
variable {zs:List Int} {w:World} {v:Value} {B n:Nat} {E:Nat->Addr}
def nz(zs:List Int):Prop:=∀ j,∀ h:j+1<zs.length,zs[j+1]≠zs[j]
theorem He(c:zs.Pairwise (·<=·))(f:nz zs):zs.Nodup:=by
 induction zs with
 | nil=>exact List.nodup_nil
 | cons x r ih =>
  rw[XD] at c
  have d:nz r:=fun j h=>by
   have:=f (j+1) (by simpa using h);simpa using this
  refine XE.2 ⟨fun b=>?_,ih c.2 d⟩
  cases r with
  | nil=>cases b
  | cons y t =>
   have k:=c.1 y zR;have g:y≠x:=by have:=f 0 (by simp);simpa using this
   rcases zF.1 b with e|b
   ·exact g e.symm
   ·have i:=(XD.1 c.2).1 x b
    omega
theorem Kc(h:zs.Nodup):nz zs:=by
 intro j b e;have:=(List.nodup_iff_pairwise_ne.1 h);rw[XF] at this;exact this j (j+1) (by omega) b (by omega) e.symm
def J6(l:List Nat):List Int:=(l.map Int.ofNat).mergeSort fun x y=>decide (x<=y)
theorem l7(l:List Nat):(J6 l).Perm (l.map Int.ofNat):=xU _ _
theorem Gd(l:List Nat):(J6 l).Pairwise (·<=·):=by
 have:=List.pairwise_mergeSort (le:=fun x y:Int=>decide (x<=y)) (fun a b c h1 h2=>by simp at *;omega) (fun a b=>by simp;omega) (l.map Int.ofNat);exact this.imp (fun h=>by simpa using h)
theorem o8(l:List Nat):(J6 l).length=l.length:=by rw[(l7 l).length_eq];simp
theorem Ag(l:List Nat)(next:Nat):((∀ z∈J6 l,1<=z/\z<(next:Int))/\nz (J6 l))↔((∀ n∈l,1<=n/\n<next)/\l.Nodup):=by
 have g:∀ z,z∈J6 l↔∃ n∈l,(n:Int)=z:=fun z=>by rw[(l7 l).mem_iff];simp
 have b:(J6 l).Nodup↔l.Nodup:=by
  rw[(l7 l).nodup_iff];constructor
  ·intro h
   rw[List.nodup_iff_pairwise_ne,xS] at h;exact List.nodup_iff_pairwise_ne.2 (h.imp (fun hne e=>hne (by rw[e])))
  ·intro h
   rw[List.nodup_iff_pairwise_ne,xS];exact(List.nodup_iff_pairwise_ne.1 h).imp (fun hne e=>hne (Int.ofNat.inj e))
 constructor
 ·rintro⟨f,d⟩
  refine⟨fun n c=>?_,b.1 (He (Gd l) d)⟩;have:=f n ((g _).2 ⟨n,c,rfl⟩);omega
 ·rintro⟨f,d⟩
  refine⟨fun z hz=>?_,Kc (b.2 d)⟩;obtain⟨n,c,rfl⟩:=(g z).1 hz;have:=f n c;omega
def jck(E:Nat->Addr)(w:World)(y7:Prop)(e:Ending)(w':World):Prop:=ja w w' (fun _=>False)/\((y7/\e = .returned .nilIface)\/(¬y7/\∃ v,e = .returned v/\fw E w' v))
theorem jct{l:List Nat}{base:Nat}(q:l.length=n)(m:0<n)(x:n<1099511627776)(h:w.ownsRow base 3 1 v n (l.map jg)) :
 Calls prog 245 #[v] w fun e w'=>e = .returned (.tuple #[])/\w'.ownsRow base 3 1 v n ((J6 l).map (Value.int .i64))/\ja w w' (fun i=>some i=v.ownBlock):=by
 subst q;rcases h.2 with⟨_,y⟩|⟨g,cap,f,rfl,b,d,u,t,s,r⟩
 ·omega
 ·have c:(l.map Int.ofNat).length=l.length:=by simp
  have p:f.toList.take (l.map Int.ofNat).length=(l.map Int.ofNat).map (Value.int .i64):=by
   rw[c];have:(l.map Int.ofNat).map (Value.int .i64)=l.map jg:=by simp
   rw[this];simpa using r
  have k:=Tryz.slices_Sort_int g 0 cap (l.map Int.ofNat) w (holds_of_blockI d p) (zC d) (by rw[c];omega);rw[c] at k;refine k.mono ?_;rintro e w' ⟨rfl,o,os,rfl⟩;refine⟨rfl,?_,ja.grown (grownBy_sortedI _)⟩;have j:=ownsRow_sortedI (n:=o) (os:=os) (ss:=l.map Int.ofNat) (ts:=J6 l) (by rw[o8,c]) b d (by rw[c];exact u) t s;rw[c] at j;exact j
theorem Gk{base k:Nat}(h:w.ownsRow base 3 1 v n (zs.map (Value.int .i64)))(b:k<zs.length)(f:0<n):∃ g c,v = .slice (some ⟨g,0,none⟩) n c/\w.cell? ⟨g,k,none⟩=some (.int .i64 zs[k]):=by
 rcases h.2 with⟨_,i⟩|⟨g,cap,d,e,_⟩
 ·omega
 ·refine⟨g,cap,e,?_⟩
  have:=h.cells (g:=g) (by rw[e];rfl) k (.int .i64 zs[k]) (by rw[ZN,xB b];rfl);rwa [add_zero] at this
theorem jb5(m:Rf.Man)(rv:Value)(S:Xg E B w)(hv:Jw w rv m.runs)(hl:m.runs.length<1048576)(hi:(m.next:Int)<=9223372036854775807/\(m.last:Int)<=9223372036854775807) :
 Calls prog 218 #[iu m rv] w (jck E w (m.last<=1000000000/\(∀ n∈m.numbers,1<=n/\n<m.next)/\m.numbers.Nodup)):=by
 have hG:(m.last<=1000000000/\(∀ n∈m.numbers,1<=n/\n<m.next)/\m.numbers.Nodup)=(m.last<=1000000000/\(∀ z∈J6 m.numbers,1<=z/\z<(m.next:Int))/\nz (J6 m.numbers)):=propext ⟨fun⟨a,b⟩=>⟨a,(Ag _ _).2 b⟩,fun⟨a,b⟩=>⟨a,(Ag _ _).1 b⟩⟩;rw[hG];clear hG;have v:=fun w' (h:Jw w' rv m.runs)=>Ru w' m rv h hl;have I:m.numbers.length<=m.runs.length+2/\0<m.numbers.length:=by have:=xy m;simp[Rf.Man.numbers];omega
 have H:=o8 m.numbers;generalize hNN:m.numbers=NN at v I H ⊢;obtain⟨next,last,log,base,runs⟩:=m;simp only at hv hl hi v I ⊢;clear hNN;obtain⟨i1,i2⟩:=hi;obtain⟨pr,cr,rfl,_⟩:=id hv;have kA:=ja.alloc w (.cells #[jg next,jg last,jg log,jg base,.slice pr runs.length cr] 117) (fun _=>False);have hT:=je w (.cells #[jg next,jg last,jg log,jg base,.slice pr runs.length cr] 117);have HT:=jb hT;clear hT;rcases zV 1000000000 last with J|J
 ·have a7:(1000000000:Int)<(last:Int):=by omega
  have s:Hid (¬(last<=1000000000/\(∀ z∈J6 NN,1<=z/\z<(next:Int))/\nz (J6 NN))):=fun h=>by have:=h.1;omega
  clear J;have s4:=(S.same kA).cell 4 (by decide);go_enter func218,ntmps218;go_wp2_with fail;refine(zw _ (.base (E:=E) 4 (by decide))).mono ?_;rintro e w2 ⟨v2,rfl,a6,k2⟩;go_wp2;go_ret;exact⟨kA.tt k2,.inr ⟨s.out,_,rfl,.of a6 (by decide)⟩⟩
 ·have a7:(last:Int)<=(1000000000:Int):=by omega
  have A:Hid (((∀ z∈J6 NN,1<=z/\z<(next:Int))/\nz (J6 NN))↔(last<=1000000000/\(∀ z∈J6 NN,1<=z/\z<(next:Int))/\nz (J6 NN))):=⟨fun h=>⟨J,h⟩,fun h=>h.2⟩;generalize (last<=1000000000/\(∀ z∈J6 NN,1<=z/\z<(next:Int))/\nz (J6 NN))=GOOD at A ⊢;clear J;go_enter func218,ntmps218;go_wp2_with fail;refine(v _ (hv.same kA)).mono ?_;rintro e w1 ⟨p,c,rfl,t,k1⟩;have K1:=kA.tt k1;go_wp2_with fail;refine(jct rfl I.2 (by omega) t).mono ?_;rintro e w2 ⟨rfl,r,k2⟩;have G:=t.lt;have X:ja w w2 (fun _=>False):=K1.trans k2 (fun i hi e=>by have:=(G i e.symm).1;simp at this;omega);have Y:=k2.same (k1.same HT.out id) (fun e=>by have:=(G _ e.symm).1;simp at this;omega);have b0:=zA (o:=0) Y;simp at b0;have S2:=S.same X;have s4:=S2.cell 4 (by decide);clear Y t G v;generalize J6 NN=ZS at H A r;rw[<-H] at r ⊢;have u:0<ZS.length:=by omega
  have ap:ZS.length<1099511627776:=by omega
  clear I H;obtain⟨g,c2,W,_⟩:=Gk r u u;cases W;go_wp2_with fail
  go_loopw [17] (fun i wr=>∃(k:Nat),k<=ZS.length/\i = .int .i64 k/\wr=w2/\(∀ z∈ZS.take k,1<=z/\z<(next:Int))/\(∀ j,∀ h:j+1<ZS.length,j+1<k->ZS[j+1]≠ZS[j]))
   (fun i _=>ZS.length-(intOf i).toNat)
  case atStart=>exact⟨0,zG _,rfl,rfl,(fun z x=>by cases x),fun j h U=>by omega⟩
  case round =>
   obtain⟨k,hk,rfl,rfl,M,D⟩:=hrel;have N:=jb M;have Z:=jb D;clear M D;rcases zV k ZS.length with y|ar
   ·obtain⟨g',c',W,e0⟩:=Gk r y u
    cases W;have F:ZS[k]∈ZS:=xV y;have f:¬(1<=ZS[k]/\ZS[k]<(next:Int))->Hid (¬GOOD):=fun h hg=>h ((A.out.2 hg).1 _ F);have d:∀ j,∀ h:j+1<ZS.length,ZS[j+1]=ZS[j]->Hid (¬GOOD):=fun j h e hg=>(A.out.2 hg).2 j h e;rcases Int.lt_or_le ZS[k] 1 with V|V
    ·have s:=f (by omega)
     clear f d;generalize ZS[k]=z at e0 V F;go_wp2_with fail;refine(zw _ (.base (E:=E) 4 (by decide))).mono ?_;rintro e w3 ⟨v3,rfl,C,T⟩;go_wp2;go_ret;exact⟨X.tt T,.inr ⟨s.out,_,rfl,.of C (by decide)⟩⟩
    ·rcases Int.lt_or_le ZS[k] (next:Int)with U|U
     ·rcases zN k with rfl|aq
      ·have l:∀ z∈ZS.take 1,1<=z/\z<(next:Int):=by
        rw[XG y];intro z x;simp at x;rw[x];exact⟨V,U⟩
       have O:=jb l
       clear f d l
       go_wp2
       exact⟨⟨1,by omega,by simp,trivial,O.out,fun j h R=>by omega⟩,by simp[intOf];omega⟩
      ·obtain⟨q,rfl⟩:∃ q,k=q+1:=⟨k-1,by omega⟩
       obtain⟨av,aw,W,e1⟩:=Gk (k:=q) r (by omega) u;cases W;rcases Classical.em (ZS[q+1]=ZS[q]'(by omega))with R|R
       ·have s:=d q y R
        clear f d;rw[<-R] at e1;go_wp2_with fail;refine(zw _ (.base (E:=E) 4 (by decide))).mono ?_;rintro e w3 ⟨v3,rfl,C,T⟩;go_wp2;go_ret;exact⟨X.tt T,.inr ⟨s.out,_,rfl,.of C (by decide)⟩⟩
       ·have l:∀ z∈ZS.take (q+1+1),1<=z/\z<(next:Int):=by
         rw[XG y];intro z x;rcases ZA.1 x with x|x
         ·exact N.out z x
         ·rw[zZ.1 x];exact⟨V,U⟩
        have D:∀ j,∀ h:j+1<ZS.length,j+1<q+1+1->ZS[j+1]≠ZS[j]:=by
         intro j h hj;by_cases hjq:j=q
         ·subst hjq;exact R
         ·exact Z.out j h (by omega)
        have O:=jb l
        have a0:=jb D
        have au:(ZS[q+1]==ZS[q]'(by omega))=false:=by simpa using R
        clear f d l D
        go_wp2
        exact⟨⟨q+1+1,by omega,by simp,trivial,O.out,a0.out⟩,by simp[intOf];omega⟩
     ·have s:=f (by omega)
      clear f d;generalize ZS[k]=z at e0 V U F;go_wp2_with fail;refine(zw _ (.base (E:=E) 4 (by decide))).mono ?_;rintro e w3 ⟨v3,rfl,C,T⟩;go_wp2;go_ret;exact⟨X.tt T,.inr ⟨s.out,_,rfl,.of C (by decide)⟩⟩
   ·have ek:k=ZS.length:=by omega
    subst ek;have L:GOOD:=A.out.1 ⟨fun z x=>N.out z (by rw[xR];exact x),fun j h=>Z.out j h h⟩;have HY:=jb L;clear L;go_wp2;go_ret;exact⟨X,.inl ⟨HY.out,rfl⟩⟩
theorem ku{l:List UInt8}(S:Xg E B w)(hB:B<=w.heap.size)(hv:Bytes w v l)(hl:l.length<8388608) :
 Calls prog 178 #[v] w (Pe E w (fun _=>False) (Rf.Ak l)):=by
 rw[<-Rf.jdt]
 have hR:Rf.jaf l=match Rf.xh l with
  | some (h,[])=>(match Rf.Qz h with|some m=>if m.Good then some m else none|none=>none)
  | _=>none:=rfl
 have HR:=jb hR;clear hR;generalize Rf.jaf l=RES at HR ⊢;have X:=ja.alloc w (.cells #[jg 0,jg 0,jg 0,jg 0,.slice none 0 0] 117) (fun _=>False);have ad:=je w (.cells #[jg 0,jg 0,jg 0,jg 0,.slice none 0 0] 117);have V:=jb ad;clear ad;rcases Classical.em (∃ h,Rf.xh l=some (h,[]))with⟨h,hf⟩|hf
 ·have I:Hid (RES=(match Rf.Qz h with|some m=>if m.Good then some m else none|none=>none)):=by unfold Hid;rw[HR.out,hf]
  clear HR
  have bh:h.length<8388608:=by
   have h1:=congrArg List.length (Rf.u2 hf);simp[Rf.frame,Rf.js] at h1;omega
  go_enter func178,ntmps178;go_wp2_with fail;refine(ly (hv.same X) hf (by omega)).mono ?_;rintro e w1 ⟨v1,rfl,az,R⟩;have K1:=X.tt R;go_wp2_with fail;refine(Xk v1 h w1 az).mono ?_;rintro e w2 ⟨r,rfl,bg,ax,k2⟩;have K2:=K1.tt k2;have S2:=S.same K2;have bf:w.heap.size<w1.heap.size:=by have:=R.size;simp at this;omega
  have b0:B<=r:=by omega
  go_wp2_with fail;refine(Gq S2 b0 ax).mono ?_;rintro e W ⟨k3,⟨m,p,c,j,rfl,y⟩|⟨v3,j,rfl,L⟩⟩
  ·obtain⟨bi,af,ac,aa,ay⟩:=Rf.og j
   have a9:m.runs.length<1048576:=by rw[ac];simp only[Rf.Dr];omega
   have o:=k3.same (k2.same (R.same V.out id) id) (show ¬w.heap.size=r by omega);have K3:ja w W (fun _=>False):=Zd K2 (by omega) k3;have S3:=S.same K3;have H:Hid (RES=if m.Good then some m else none):=by unfold Hid;rw[I.out,j]
   have hG:m.Good↔(m.last<=1000000000/\(∀ n∈m.numbers,1<=n/\n<m.next)/\m.numbers.Nodup):=⟨fun h=>h.2,fun h=>⟨aa,h⟩⟩;have F:(m.last:Int)<=9223372036854775807:=by omega
   have D:(m.next:Int)<=9223372036854775807:=by omega
   have HG:=jb hG;have u:=jb o;clear hG o I ac j aa ay af;have C:=Jz y rfl;have q:=fun w' (S':Xg E B w') (h':Jw w' (.slice p m.runs.length c) m.runs)=>jb5 m (.slice p m.runs.length c) S' h' a9 ⟨D,F⟩;obtain⟨next,last,log,base,f⟩:=m;simp only at y a9 C q F D;have O:=ja.alloc W (.cells #[jg next,jg last,jg log,jg base,.slice p f.length c] 117) (fun _=>False);have ae:=je W (.cells #[jg next,jg last,jg log,jg base,.slice p f.length c] 117);have b1:=jb ae;clear ae;go_wp2_with fail;refine(q _ (S3.same O) (C.same O)).mono ?_;rintro e w4 ⟨Y,⟨G,rfl⟩|⟨M,v4,rfl,L⟩⟩
   ·have T:Hid (RES=some ⟨next,last,log,base,f⟩):=by unfold Hid;rw[H.out,if_pos (HG.out.2 G)]
    clear H HG G q;have N:=Y.same b1.out id;have z:=Y.same (O.same u.out id) id;obtain⟨⟨a0,a1,a2,a3,a4⟩,_⟩:=Qe N;obtain⟨⟨q0,q1,U,q3,q4⟩,d⟩:=Qe z;have f0:=d 0;have f1:=d 1;have f2:=d 2;have f3:=d 3;have f4:=d 4;have ag:=jb z;clear N z;go_wp2;have hb:=ph ag.out (jg next) (jg last) (jg log) (jg base) (.slice p f.length c);refine bodyPost_ret (rh (n:=next) (l:=last) (g:=log) (s:=base) (p:=p) (k:=f.length) (c:=c) rfl rfl hb) rfl ?_;have ks:=cz w4 w.heap.size (jg next) (jg last) (jg log) (jg base) (.slice p f.length c);refine⟨((K3.tt O).tt Y).trans ks (fun i hi e=>by have e':i=w.heap.size:=e;omega),.inl ⟨⟨next,last,log,base,f⟩,p,c,T.out,rfl,?_⟩⟩;have A:=Y.row (O.row y (fun _ _ h=>h)) (fun _ _ h=>h);exact xd (ks.row A (fun g hg e=>by have h1:=(A.lt g hg).1;have e':g=w.heap.size:=e;have:=k2.size;omega)) K2.size
   ·have T:Hid (RES=none):=by unfold Hid;rw[H.out,if_neg (fun h=>M (HG.out.1 h))]
    clear H HG M q;obtain⟨t,a,rfl⟩:=L.shape;go_wp2_with fail;refine(nh _ L).mono ?_;rintro e w5 ⟨Z,rfl,x,J⟩;have b:=J.same (Y.same (O.same u.out id) id) id;obtain⟨⟨q0,q1,U,q3,q4⟩,d⟩:=Qe b;have f0:=d 0;have f1:=d 1;have f2:=d 2;have f3:=d 3;have f4:=d 4;have H5:=jb b;clear b;go_wp2;exact Z0 (v:=Z) rfl rfl rfl rfl T.out H5.out (zJ _) x (((K3.tt O).tt Y).tt J)
  ·have T:Hid (RES=none):=by unfold Hid;rw[I.out,j]
   clear I;have K3:ja w W (fun _=>False):=Zd K2 (by omega) k3;have o:=k3.same (k2.same (R.same V.out id) id) (show ¬w.heap.size=r by omega);have u:=jb o;clear o;obtain⟨t,a,rfl⟩:=L.shape;go_wp2_with fail;refine(nh _ (L.same (ja.alloc W _ _))).mono ?_;rintro e w5 ⟨Z,rfl,x,J⟩;have b:=J.same ((ja.alloc W _ (fun _=>False)).same u.out id) id;obtain⟨⟨q0,q1,U,q3,q4⟩,d⟩:=Qe b;have f0:=d 0;have f1:=d 1;have f2:=d 2;have f3:=d 3;have f4:=d 4;have H5:=jb b;clear b;go_wp2;exact Z0 (v:=Z) rfl rfl rfl rfl T.out H5.out (zJ _) x ((K3.more _).tt J)
 ·have ab:∀ h,Rf.xh l≠some (h,[]):=fun h e=>hf ⟨h,e⟩
  have T:Hid (RES=none):=by
   unfold Hid;rw[HR.out]
   split
   ·rename_i h e
    exact absurd e (ab h)
   ·rfl
  clear HR;go_enter func178,ntmps178;go_wp2_with fail;refine(Kr (S.same X) (ZI hB X.size) (hv.same X) ab (by omega)).mono ?_;rintro e w1 ⟨v1,rfl,L,R⟩;obtain⟨t,a,rfl⟩:=L.shape;go_wp2_with fail;refine(nh _ L).mono ?_;rintro e w5 ⟨Z,rfl,x,J⟩;have b:=J.same (R.same V.out id) id;obtain⟨⟨q0,q1,U,q3,q4⟩,d⟩:=Qe b;have f0:=d 0;have f1:=d 1;have f2:=d 2;have f3:=d 3;have f4:=d 4;have H5:=jb b;clear b;go_wp2;exact Z0 (v:=Z) rfl rfl rfl rfl T.out H5.out (zJ _) x ((X.tt R).tt J)
end Go.Proofs.YtnipbplghijdmaaGreatDoor
namespace Go.Proofs.YtnipbplghijdmaaGreatDoor
open RowKit Maps WideShapes Go.Proofs.Tryz
variable {l:List Rf.Ch}
abbrev j6(n:Nat):Value:= .int .i64 n
def Ca(a b:List UInt8):Int:=Lib.compareBytes a b
theorem Zm(c:Rf.Ch)(key:Str)(w:World) :
 Calls prog 154 #[chV c,jf key] w fun e w'=>e = .returned (.int .i64 (Ca c.key key))/\ja w w' (fun _=>False):=by
 obtain⟨k,v,g⟩:=c;go_enter func154,ntmps154
 go_wp2_with (go_at_call 190;refine(Tryz.strings_Compare ⟨k.toArray⟩ ⟨key.toArray⟩ _).mono ?_;rintro e w' ⟨rfl,rfl⟩)
 go_ret;exact⟨by simp[Ca],ja.alloc w _ _⟩
theorem fp(a b:List UInt8):(a<b/\Ca a b = -1)\/(a=b/\Ca a b=0)\/(b<a/\Ca a b=1):=by
 unfold Ca
 induction a generalizing b with
 | nil =>
  cases b with
  | nil=>exact .inr (.inl ⟨rfl,rfl⟩)
  | cons y t=>exact .inl ⟨by simp,rfl⟩
 | cons x r ih =>
  cases b with
  | nil=>exact .inr (.inr ⟨by simp,rfl⟩)
  | cons y t =>
   rw[Lib.compareBytes];by_cases h1:x<y
   ·rw[if_pos h1]
    exact .inl ⟨List.cons_lt_cons_iff.2 (.inl h1),rfl⟩
   ·rw[if_neg h1]
    by_cases h2:y<x
    ·rw[if_pos h2]
     exact .inr (.inr ⟨List.cons_lt_cons_iff.2 (.inl h2),rfl⟩)
    ·rw[if_neg h2]
     have e:x=y:=UInt8.le_antisymm (UInt8.not_lt.1 h2) (UInt8.not_lt.1 h1);subst e;rcases ih t with⟨h,c⟩|⟨h,c⟩|⟨h,c⟩
     ·exact .inl ⟨List.cons_lt_cons_iff.2 (.inr ⟨rfl,h⟩),c⟩
     ·exact .inr (.inl ⟨by rw[h],c⟩)
     ·exact .inr (.inr ⟨List.cons_lt_cons_iff.2 (.inr ⟨rfl,h⟩),c⟩)
theorem jep{k:List UInt8}{n:Nat}(b:n<=l.length)(d:∀ j,∀ h:j<l.length,j<n->l[j].key<k)(c:∀ j,∀ h:j<l.length,n<=j->¬l[j].key<k):Rf.below l k=n:=by
 unfold Rf.below
 induction l generalizing n with
 | nil=>simp at b;simp[b]
 | cons x r ih =>
  cases n with
  | zero =>
   have:=c 0 (by simp) (zJ _);simp only[List.getElem_cons_zero] at this;simp[this]
  | succ n =>
   have f:=d 0 (by simp) (by omega);simp only[List.getElem_cons_zero] at f;have:=ih (n:=n) (by simpa using b) (fun j h hj=>by have:=d (j+1) (by simpa using h) (by omega);simpa using this) (fun j h hj=>by have:=c (j+1) (by simpa using h) (by omega);simpa using this);simp[f,this]
theorem L9(h:Rf.jw l){i j:Nat}(c:j<l.length)(b:i<j):(l[i]'(by omega)).key<l[j].key:=by
 unfold Rf.jw at h;rw[XF] at h;exact h i j (by omega) c b
theorem Gi(v:Value)(l:List Rf.Ch)(key:Str)(w:World)(M:Chs w v l)(V:Rf.jw l)(hl:l.length<1099511627776) :
 Calls prog 153 #[v,jf key,.func (.func 154) #[] #[]] w fun e w' =>
  e = .returned (.tuple #[j6 (Rf.below l key),.bool (decide ((l[Rf.below l key]?).map Rf.Ch.key=some key))])/\ja w w' (fun _=>False):=by
 obtain⟨p,c,rfl,_⟩:=id M;go_enter func153,ntmps153;go_wp2_with fail
 go_loopw [9,10] (fun a b wr=>∃(lo d:Nat),a = .int .i64 lo/\b = .int .i64 d/\lo<=d/\d<=l.length/\(∀ j,∀ h:j<l.length,j<lo->l[j].key<key)/\(∀ j,∀ h:j<l.length,d<=j->¬l[j].key<key)/\ja w wr (fun _=>False))
  (fun a b _=>(intOf b-intOf a).toNat)
 case atStart=>exact⟨0,l.length,rfl,rfl,zG _,zJ _,(fun j h O=>by omega),(fun j h O=>by omega),ja.refl _ _⟩
 case round =>
  obtain⟨lo,d,rfl,rfl,h1,O,F,H,g⟩:=hrel;have t:=jb F;have B:=jb H;clear F H;rcases zV lo d with A|a5
  ·have N:(lo+d)/2<l.length:=by omega
   have y:=M.same g;obtain⟨b,o,rfl,Z,Y,X⟩:=y.at N;have S:((lo:Int)+(d:Int))/2=(((lo+d)/2:Nat):Int):=by omega
   have a2:((lo:Int)+(d:Int))%18446744073709551616=(lo:Int)+(d:Int):=by omega
   generalize hM:(lo+d)/2=m at N Z Y X S;have a4:lo<=m:=by omega
   have a3:m<d:=by omega
   have i:¬l[m].key<key->∀ j,∀ h:j<l.length,m<=j->¬l[j].key<key:=by
    intro D j h x f;rcases Nat.eq_or_lt_of_le x with e|x
    ·subst e;exact D f
    ·exact D (XH (L9 V h x) f)
   have r:l[m].key<key->∀ j,∀ h:j<l.length,j<m+1->l[j].key<key:=by
    intro D j h x;rcases zV j m with x|x
    ·exact XH (L9 V N x) D
    ·have:j=m:=by omega
     subst this;exact D
   have q:=jb i;have s:=jb r;clear i r;rcases fp l[m].key key with⟨f,k⟩|⟨f,k⟩|⟨f,k⟩
   ·have G:=s.out f
    have U:=jb G;clear G f s q
    go_wp2_with (go_at_call 154;refine(Zm l[m] key wr).mono ?_;rintro e L ⟨rfl,u⟩;rw[k])
    exact⟨⟨m+1,d,by simp,by simp,by omega,by omega,U.out,B.out,g.tt u⟩,by simp[intOf];omega⟩
   ·have n:=q.out (by rw[f];exact ZY _)
    have C:=jb n;clear n f s q
    go_wp2_with (go_at_call 154;refine(Zm l[m] key wr).mono ?_;rintro e L ⟨rfl,u⟩;rw[k])
    exact⟨⟨lo,m,by simp,by simp,by omega,by omega,t.out,C.out,g.tt u⟩,by simp[intOf];omega⟩
   ·have n:=q.out (List.lt_asymm f)
    have C:=jb n;clear n f s q
    go_wp2_with (go_at_call 154;refine(Zm l[m] key wr).mono ?_;rintro e L ⟨rfl,u⟩;rw[k])
    exact⟨⟨lo,m,by simp,by simp,by omega,by omega,t.out,C.out,g.tt u⟩,by simp[intOf];omega⟩
  ·have eh:d=lo:=by omega
   subst eh;have W:Rf.below l key=d:=jep O t.out B.out;have I:=jb W;clear t B W;rcases zV d l.length with A|J
   ·have y:=M.same g
    obtain⟨b,o,rfl,Z,Y,X⟩:=y.at A;have E:(l[d]?).map Rf.Ch.key=some l[d].key:=by rw[xB A];rfl
    have R:=jb E;clear E;rcases fp l[d].key key with⟨f,k⟩|⟨f,k⟩|⟨f,k⟩
    all_goals
     have z:decide (some l[d].key=some key)=(Ca l[d].key key==0):=by
      rw[k]
      first
       | (have h3:¬l[d].key=key:=fun e=>by rw[e] at f;exact ZY _ f
          simp[h3])
       | simp[f]
     rw[k] at z;have T:=jb z;clear z f
     go_wp2_with (go_at_call 154;refine(Zm l[d] key wr).mono ?_;rintro e L ⟨rfl,u⟩;rw[k])
     go_ret2;refine⟨?_,g.tt u⟩;rw[I.out,R.out,T.out];rfl
   ·have E:l[d]?=none:=XI J
    have R:=jb E;clear E;go_wp2;go_ret2;refine⟨?_,g⟩;rw[I.out,R.out];rfl
end Go.Proofs.YtnipbplghijdmaaGreatDoor
