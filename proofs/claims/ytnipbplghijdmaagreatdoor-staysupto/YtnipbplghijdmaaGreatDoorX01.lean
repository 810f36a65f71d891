/-
  X: StaysF StandR StaysR ArgsD.
-/
import Derived.JoinedCond
import Derived.Test.YtnipbplghijdmaaGreatDoorV42
namespace Go.Proofs.YtnipbplghijdmaaGreatDoor
set_option linter.unusedVariables false
theorem stays_fact0 : (Rows.staysUptoRow.wf (OpenSpec.ofChange (Rows.OpenSpec.upto Rows.staysSpec).bare)) = true := by kernel_rfl
theorem stays_fact1 : (laidOutB Tryz.prog) = true := by kernel_rfl
theorem stays_fact2 : (mapsRowed Tryz.prog) = true := by kernel_rfl
theorem stays_fact3 : (Tryz.f12.params.all (Tryz.prog.readableRec ·)) = true := by kernel_rfl
theorem stays_fact4 : (namedTie Tryz.prog Rows.staysUptoRow.named (Rows.OpenSpec.upto Rows.staysSpec).bare.vars) = true := by kernel_rfl
theorem stays_fact5 : ((Rows.staysUptoRow.stops == [])) = true := by kernel_rfl
theorem stays_fact6 : ((Tryz.prog.stops == [])) = true := by kernel_rfl
theorem stays_fact7 : ((Rows.staysUptoRow.knobs == [])) = true := by kernel_rfl
theorem stays_fact8 : ((Tryz.prog.stopKnobs == [])) = true := by kernel_rfl
theorem stays_fact9 : ((Rows.staysUptoRow.inPlace == Tryz.prog.inPlace 12)) = true := by kernel_rfl
theorem stays_fact10 : ((Rows.staysUptoRow.unfollowed == Tryz.prog.unfollowed 12)) = true := by kernel_rfl
theorem stays_fact11 : ((Rows.staysUptoRow.recurses == Tryz.prog.recurses 12)) = true := by kernel_rfl
theorem stays_fact12 : ((Rows.staysUptoRow.named == Tryz.prog.varsNamed 12)) = true := by kernel_rfl
theorem stays_fact13 : ((Rows.staysUptoRow.maps == (Tryz.f12.params.toList ++ (Rows.OpenSpec.upto Rows.staysSpec).bare.plain.varTypes Tryz.prog).any (Tryz.prog.mapsRec ·))) = true := by kernel_rfl
theorem stays_fact14 : ((Rows.staysUptoRow.ifaces == (Tryz.f12.params.toList ++ (Rows.OpenSpec.upto Rows.staysSpec).bare.plain.varTypes Tryz.prog).any (Tryz.prog.ifacesRec ·))) = true := by kernel_rfl
theorem stays_fact15 : ((Rows.staysUptoRow.mapsOut == Tryz.prog.mapsAmong Tryz.f12.resultTypes.toList)) = true := by kernel_rfl
theorem stays_fact16 : ((Rows.staysUptoRow.loops == (Tryz.f12.params.toList ++ (Rows.OpenSpec.upto Rows.staysSpec).bare.plain.varTypes Tryz.prog).any (Tryz.prog.loopsFrom ·))) = true := by kernel_rfl
theorem stays_fact17 : ((Rows.staysUptoRow.wideKeys == (Tryz.f12.params.toList ++ (Rows.OpenSpec.upto Rows.staysSpec).bare.plain.varTypes Tryz.prog ++ Tryz.f12.resultTypes.toList).any (Tryz.prog.wideKeysFrom ·))) = true := by kernel_rfl
theorem stays_fact18 : ((Rows.OpenSpec.upto Rows.staysSpec).bare.vars.all (Tryz.prog.varReadable ·)) = true := by kernel_rfl
theorem stays_fact19 : (Tryz.f12.resultTypes.all (fun t => Tryz.prog.readableRec t && decide (t < Tryz.prog.types.size))) = true := by kernel_rfl
theorem stays_fact20 : ((Rows.staysUptoRow.ifacesOut == Tryz.f12.resultTypes.toList.any (Tryz.prog.ifacesRec ·))) = true := by kernel_rfl
theorem stays_fact21 : ((Rows.staysUptoRow.loopsOut == Tryz.f12.resultTypes.toList.any (Tryz.prog.loopsFrom ·))) = true := by kernel_rfl
theorem stays_fact22 : ((Rows.staysUptoRow.plainKeys == Tryz.prog.plainKeys)) = true := by kernel_rfl
theorem stays_fact23 : (Rows.staysUptoRow.shortTexts.isNone) = true := by kernel_rfl
theorem stays_fact24 : (Tryz.prog.stopsHeard) = true := by kernel_rfl
theorem stays_fact25 : (Tryz.prog.mayEnter) = true := by kernel_rfl
theorem stays_fact26 : ((Rows.staysUptoRow.lifted == Tryz.prog.liftsFinal)) = true := by kernel_rfl
theorem stays_fact27 : ((Tryz.prog.make == some Rows.staysUptoRow.make)) = true := by kernel_rfl
theorem stays_fact29 : ((Rows.staysUptoRow.pinned == Rows.staysUptoRow.pinnedBy)) = true := by kernel_rfl
theorem stays_fact30 : ((Rows.staysUptoRow.veiled == (Tryz.f12.params.toList ++ (Rows.OpenSpec.upto Rows.staysSpec).bare.plain.varTypes Tryz.prog ++ Tryz.f12.resultTypes.toList).any (Tryz.prog.veiledRec ·))) = true := by kernel_rfl
theorem stays_fact31 : (Rows.staysUptoRow.veiledFits Tryz.prog Tryz.f12.params.toList (Tryz.f12.params.toList ++ (Rows.OpenSpec.upto Rows.staysSpec).bare.plain.varTypes Tryz.prog ++ Tryz.f12.resultTypes.toList)) = true := by kernel_rfl
end Go.Proofs.YtnipbplghijdmaaGreatDoor
namespace Go.Proofs.YtnipbplghijdmaaGreatDoor
open Go.RowKit Go.Maps Go.WideShapes
set_option linter.unusedVariables false
variable {U : Nat} {S S' : jc} {s s' t : Rf.St} {Q R : Want} {ess : List (List Rf.Ch)} {es : List Rf.Ch} {sf N L N' L' : Nat} {fl bd : Bool}
theorem X4.rest (h : X4 S s ess fl sf N L bd) : Rest S (qi ess sf (Ju ess fl) N L) := h.xl.elim (fun h => h.2) (fun h => h.2.rest)
end Go.Proofs.YtnipbplghijdmaaGreatDoor
namespace Go.Proofs.YtnipbplghijdmaaGreatDoor
open Go.RowKit Go.Maps Go.WideShapes
set_option linter.unusedVariables false
set_option linter.unusedSimpArgs false
variable {E : Nat → Addr} {B : Nat} {w w' w0 wz : World} {d b k kb U V N L : Nat} {S S' : jc} {s : Rf.St} {F G T : Nat → Prop} {Q R : Want} {m : Rf.Man} {bls : List (List Rf.Ch)} {ρ : Nat → j3} {ess : List (List Rf.Ch)} {wv : Value} {fl bd : Bool} {sf lv : Nat}
def ChoosesAt (W : World) (B : Nat) (p : Option Addr) (css : List (List Int)) : Prop := ∀ i (h : i < css.length), ∃ b o v, p = some ⟨b, o, none⟩ ∧ W.cell? ⟨b, o + i, none⟩ = some v ∧ Zm W B v css[i]
theorem Zm.bare (w : World) (B0 : Nat) : Zm w B0 (.slice none 0 0) [] := ⟨none, 0, rfl, Nat.le_refl _, Nat.zero_le _, fun x h => (by cases h), fun h => (h rfl).elim⟩
theorem Bk.toBd (h : Bk E B w0 kb d b S s wv ess fl sf bd F w) : ∃ ρ, Bd E B w0 w kb d F S 160000 wv ess ρ w := by
 obtain ⟨ρ, D, Fk, hρ⟩ := h.own.xl
 refine ⟨ρ, D, Fk, h.own.env, h.wr.step (ja.refl _ (fun _ => False)) (fun _ t => t.elim) (fun i t => .inl (t.imp (hρ i) id)), ⟨Classical.byContradiction (fun t => h.nkb.1 (hρ kb t)), h.nkb.2⟩, fun i t => h.new i (hρ i t), h.base, ja.refl _ _, fun i t => .inl (t.imp (hρ i) id)⟩
theorem Bd.fit' {j : Nat} (h : Bd E B w0 wz kb d F S k wv ess ρ w) (hj : k ≤ j) : Bd E B w0 wz kb d F S j wv ess ρ w := ⟨h.xl, h.fit.mono hj, h.env, h.wr, h.nkb, h.new, h.base, h.wj⟩
theorem Bd.cutted (h : Bd E B w0 wz kb d F S k wv ess ρ w) (hkb : kb < w.heap.size) (n : Int) (hn : n ≤ 9223372036854775807) : Calls Tryz.prog 44 #[.pointer (some ⟨d, 0, none⟩), .int .i64 n] w fun e w' => e = .returned (.tuple #[]) ∧ Bd E B w0 wz kb d F { S with cut := max n (-1) } k wv ess ρ w' ∧ ja w w' (fun i => ρ i ≠ .none) := by
 refine (jhd h.xl h.env n hn).mono ?_
 rintro e w1 ⟨rfl, D, kk, H⟩
 exact ⟨rfl, h.step (k' := k) D (h.fit.zr rfl rfl rfl rfl) H kk (fun i t => .inl t) hkb, kk⟩
theorem qi.stay : (qi ess ess.length ess.length N L).whole.down.Le (qi ess ess.length ess.length N L).whole :=
 ⟨fun _ q => q, fun t ⟨h1, h2, n, h3, h4, h5⟩ => by
   have e : n = ess.length := by omega
   rw [e] at h5
   exact ⟨⟨h1, h2, ess.length, Nat.le_refl _, Nat.le_refl _, h5⟩, h5⟩, fun _ t => t⟩
theorem Safe.crashed (h : Safe S 20000 (qi ess ess.length ess.length N L).whole) (ch : List Int) : Safe (S.crashed ch) 20000 (qi ess ess.length ess.length N L).whole ∧ qh (S.crashed ch) := by
 obtain ⟨m, bls, h⟩ := h
 obtain ⟨m', bls', h1, h2, h3⟩ := h.Jj ch
 exact ⟨⟨m', bls', h1.mono (Nat.le_refl _) qi.stay⟩, h3⟩
def OpenW' (E : Nat → Addr) (B : Nat) (w0 wz : World) (kb d : Nat) (F : Nat → Prop) (S : jc) (wv : Value) (ess : List (List Rf.Ch)) (Q : Want) (ρ : Nat → j3) (w : World) (e : Ending) (w' : World) : Prop :=
 ∃ pv fv ρ' S', e = .returned (.tuple #[.pointer pv, .int .i64 fv]) ∧ Bd E B w0 wz kb d F S' 620000 wv ess ρ' w' ∧ Safe S' 20000 Q ∧ ja w w' (fun i => ρ i ≠ .none) ∧ (fv = 0 ∨ fv = 1) ∧
   (qh S → ∃ b F' s, pv = some ⟨b, 0, none⟩ ∧ fv = 0 ∧ Qt E B w' d b S' 60000 s false F' ∧ Norm S' 20000 s Q ∧ qh S' ∧ ∀ i, F' i → ρ i ≠ .none ∨ w.heap.size ≤ i)
theorem open_whole (h : Bd E B w0 wz kb d F S 160000 wv ess ρ w) (hS : Safe S 20000 (qi ess sf lv N L).whole) (hN : N + 1 ≤ 2000000000) (hkb : kb < w.heap.size) :
   Calls Tryz.prog 45 #[.pointer (some ⟨d, 0, none⟩)] w (OpenW' E B w0 wz kb d F S wv ess (qi ess sf lv N L).whole ρ w) := by
 obtain ⟨m, bls, P⟩ := hS
 refine (Uf (V := 20000) (R := (qi ess sf lv N L).whole) h.xl h.fit h.env (by omega) P (Want.Le.refl _) (fun t _ ht => ht.elim) (fun t ht => by have := ht.1.1; omega) (Nat.le_refl _) (Nat.le_refl _) (fun t ht => ht.elim)).mono ?_
 rintro e w1 (⟨rfl, hw, ρ', S', D, Fk, hS, hc, kk, hρ⟩ | ⟨b, F', S', s, rfl, hb, O, Nm, hA, hW, hc, kk, hF⟩)
 · exact ⟨_, _, ρ', S', rfl, h.step D Fk (h.env.keep kk (fun i t => h.xl.yx i t)) kk (vf hρ) hkb, hS, kk, .inr rfl, fun t => absurd t hw⟩
 · obtain ⟨ρ', D, Fk, hρ⟩ := O.xl
   exact ⟨_, _, ρ', S', rfl, h.step D (Fk.mono (by omega)) O.env kk (fun i t => hF i (hρ i t)) hkb, Nm.safe, kk, .inl rfl, fun t => ⟨b, F', s, rfl, rfl, O, Nm, hW t, hF⟩⟩
def StayAt (E : Nat → Addr) (B : Nat) (w w1 w6 : World) (kb d : Nat) (F : Nat → Prop) (wv : Value) (ess : List (List Rf.Ch)) (N L : Nat) (row : Array Value) (W : World) : Prop :=
 ∃ S ρ, Bd E B w1 w6 kb d F S 160000 wv ess ρ W ∧ Safe S 20000 (qi ess ess.length ess.length N L).whole ∧ qh S ∧ W.heap[kb]? = some (.cells row 51 (0, 0)) ∧ ja w W (fun _ => False)
set_option maxHeartbeats 8000000 in
set_option maxRecDepth 100000 in
theorem stays_law (H : Env E B w) (hB : B ≤ w.heap.size) {p pzv pq : Option Addr} {pc czv cq : Nat} {ac : List X5} {zs : List Int} {css : List (List Int)} (hops : Vx w w.heap.size p ac) (hn : ac.length ≤ 131072) (hz : Zs w (.slice pzv zs.length czv) zs) (hcs : ChoosesAt w w.heap.size pq css) (hcl : css.length ≤ 1048576) :
   Calls Tryz.prog 12 #[.slice p ac.length pc, .slice pzv zs.length czv, .slice pq css.length cq] w fun e w' => e = .returned (.bool true) ∧ ja w w' (fun _ => False) := by
 have HPL := jb (jcu H hB (pc := pc) hops hn)
 obtain ⟨n, hnn⟩ : ∃ n, n = ac.length := ⟨_, rfl⟩
 rw [← hnn] at HPL ⊢
 obtain ⟨_, _, _, _, hzb, hzl, _⟩ := id hz
 obtain ⟨nzv, hnz⟩ : ∃ nzv, nzv = zs.length := ⟨_, rfl⟩
 obtain ⟨nq, hnq⟩ : ∃ nq, nq = css.length := ⟨_, rfl⟩
 have HZ := jb hz
 have HZB := jb hzb
 have HCS := jb hcs
 rw [← hnz] at hzl ⊢
 rw [← hnq] at hcl ⊢
 have HNZ := jb hnz
 have HNQ := jb hnq
 clear hops hn hnn hz hcs hnz hnq hzb
 go_enter Tryz.func12, Tryz.ntmps12
 go_wp2_with fail
 refine HPL.out.mono ?_
 rintro e w2 ⟨kb, d, w1, i0, rfl, sz1, hi0, b, S, s, wv, ess, fl, sf, bd, F, hb, hS, hW, hk⟩
 have HCLO := jb hb.closed
 have c1 := zA (o := 1) hb.row
 simp at c1
 have HB2 := jb hb
 have HS2 := jb hS
 have HK2 := jb hk
 clear hb hS hW hk HPL
 go_wp2_with fail
 refine HCLO.out.mono ?_
 rintro e w3 ⟨rfl, hr3, ρ3, hd3⟩
 have c0 := zA (o := 0) hr3
 simp at c0
 have hkb3 := zC hr3
 have HCR := jb (hd3.crashed (by omega) hkb3 HS2.out.rest (Zm.bare w3 w1.heap.size))
 have HD3 := jb hd3
 have HR3 := jb hr3
 clear hd3 hr3 hkb3 c1 HCLO
 go_wp2_with fail
 refine HCR.out.mono ?_
 rintro e w4 ⟨rfl, ρ4, hd4, k4⟩
 obtain ⟨P4, W4, F4⟩ := HS2.out.rest.Jj (fun t q => q) []
 have hr4 := k4.same HR3.out (fun t => t HD3.out.nkb.1)
 have HOPN := jb (kj (least := 0) (N := 2 + 3 * i0) (L := i0) hd4 (by omega) W4 (P4.mono (fun t ht => ⟨ht.1, ht.2.1, by obtain ⟨_, _, q, _, q2, q3⟩ := ht; exact ⟨q, Nat.zero_le _, q2, q3⟩⟩)) (by omega) hr4 HS2.out.st.small (by have := HS2.out.st.len; omega) (by omega))
 clear hd4 k4 P4 W4 F4 hr4 c0 HCR
 go_wp2_with fail
 refine HOPN.out.mono ?_
 rintro e w5 ⟨rfl, b5, S5, s5, n5, wv5, F5, hb5, N5, W5, hn5, hg5⟩
 have HK5 : Hid (ja w w5 (fun _ => False)) := (show _ from HK2.out.trans hg5.1 (fun j hj t => by have := (HB2.out.lt t).1; omega))
 obtain ⟨es5, hes5⟩ : ∃ es5, es5 = ess.take n5 := ⟨_, rfl⟩
 have hl5 : es5.length = n5 := by rw [hes5, List.length_take]; omega
 have h85 : ∀ b ∈ es5, b.length ≤ 8 := fun b hb => HS2.out.st.small b (by rw [hes5] at hb; exact List.mem_of_mem_take hb)
 have hnl : n5 ≤ 131072 := by have := HS2.out.st.len; omega
 rw [← hes5] at hb5 N5
 obtain ⟨pw, cw, hwv⟩ := hb5.slice
 rw [hl5] at hwv
 have HFOLD : Hid (∀ W, ja w5 W (fun _ => False) → Calls Tryz.prog 30 #[.slice pw n5 cw, j7 n5] W fun e w' => ∃ v, e = .returned v ∧ w'.ownsRow W.heap.size 65 2 v (Rf.zn es5).length (qo (Rf.zn es5)) ∧ ja W w' (fun _ => False)) := fun W kW => by
   have := Uu wv5 es5 ((hb5.wr.wri).same kW) h85 n5 (by omega) (by omega)
   rw [hwv, ← hl5, List.take_length, hl5] at this
   exact this
 have c2 := zA (o := 2) hb5.row
 simp at c2
 rw [hwv] at c2
 have c2d : w5.drew.cell? ⟨kb, 2, none⟩ = some (.slice pw n5 cw) := c2
 have HB5 := jb hb5
 have HN5 := jb N5
 have HW5 := jb W5
 have HL5 := jb hl5
 have HWV := jb hwv
 have H85 := jb h85
 clear hb5 N5 W5 hg5 hn5 hes5 hl5 h85 hwv HOPN HB2 HS2 HK2 HD3 HR3 c2
 go_upto_region 9 with fail
 go_cut [9] from 19 (fun s9 wd => wd.ownsRow w5.heap.size 65 2 s9 (Rf.zn es5).length (qo (Rf.zn es5)) ∧ ja w5 wd (fun _ => False))
 case first =>
   go_region_with (go_at_call 30; refine (HFOLD.out _ (ja.drew _ _)).mono ?_; rintro e w6 ⟨v6, rfl, hr6, k6⟩)
   all_goals
     have HR6 : Hid (w6.ownsRow w5.heap.size 65 2 v6 (Rf.zn es5).length (qo (Rf.zn es5))) := hr6
     have HK6 := jb ((ja.drew w5 (fun _ => False)).trans k6 (fun _ _ t => t))
     clear hr6 k6
     go_wp2
     go_meet
   all_goals exact ⟨HR6.out, HK6.out⟩
 case rest =>
   rename World => w6
   obtain ⟨hr6, k6⟩ := hcut
   obtain ⟨pv, cv, rfl⟩ := jm hr6
   obtain ⟨nkv, hnk⟩ : ∃ nkv, nkv = (Rf.zn es5).length := ⟨_, rfl⟩
   have hb6 := HB5.out.same k6
   have HOFF : Hid (∀ g, (Value.slice pv (Rf.zn es5).length cv).ownBlock = some g → ¬ bkG F5 kb wv5 g ∧ g < w6.heap.size) := fun g hg => ⟨fun t => by have := (hr6.lt g hg).1; have := (HB5.out.lt t).2; omega, (hr6.lt g hg).2⟩
   have HKN : Hid ((Rf.zn es5).length ≤ 1099999) := (show (Rf.zn es5).length ≤ 1099999 from by have h := (Rf.Hs es5 H85.out es5.length).2.2; rw [List.take_length] at h; have := HL5.out; omega)
   obtain ⟨ρ6, hd6⟩ := hb6.toBd
   have HS6 : Hid (StayAt E B w w1 w6 kb d F5 wv5 es5 (2 + 3 * i0 + 1) i0 (zy d b5 wv5 false n5 false) w6) := (show _ from ⟨S5, ρ6, hd6, by rw [HL5.out]; exact HN5.out.safe, HW5.out, hb6.row, HK5.out.trans k6 (fun _ _ t => t)⟩)
   have HR6 := jb hr6
   have HB6 := jb hb6
   rw [← hnk]
   have HNK := jb hnk
   clear hr6 k6 hb6 hd6 hnk HFOLD c2d HN5 HW5 HB5 HK5
   go_wp2_with fail
   go_loopw [10, 11, 12, 13] (fun t10 _ _ _ wr => ∃ i : Nat, t10 = .int .i64 i ∧ i ≤ 40 ∧ i ≤ nzv ∧ StayAt E B w w1 w6 kb d F5 wv5 es5 (2 + 3 * i0 + 1) i0 (zy d b5 wv5 false n5 false) wr) (fun t10 _ _ _ _ => 40 - (intOf t10).toNat)
   case atStart => exact ⟨0, rfl, by omega, by omega, HS6.out⟩
   case round =>
     obtain ⟨i, rfl, hi40, hinz, Sr, ρr, hdr, hsr, hwr, hrr, hkr⟩ := hrel
     have hkbr := zC hrr
     rcases (by omega : (i < nzv ∧ i < 40) ∨ ¬ i < nzv ∨ (i < nzv ∧ ¬ i < 40)) with ⟨h1, h2⟩ | hend
     · have hb1 : (i : Int) < (nzv : Int) := by omega
       have hb2 : (i : Int) < 40 := by omega
       have hwi : IntKind.i64.wrap ((i : Int) + 1) = (i : Int) + 1 := zE (by omega) (by omega)
       have hzi : i < zs.length := by rw [← HNZ.out]; exact h1
       have hzat := HZ.out
       obtain ⟨zbv, zov, hpz, hzc⟩ := (HZ.out.same hkr).at hzi
       subst hpz
       have hzr := HZB.out zs[i] (List.getElem_mem hzi)
       generalize zs[i] = z at hzc hzr
       have HPK : Hid (∀ W, Calls Tryz.prog 25 #[.int .i64 z, .int .i64 24] W fun e w' => e = .returned (.int .i64 (X2 z 24)) ∧ w' = W) := fun W => Y5 z hzr.1 hzr.2 24 (by decide) (by decide) W
       have hpk := aw z (n := 24) (by decide)
       generalize X2 z 24 = PZ at HPK hpk
       have HCU : Hid (∀ W, ja wr W (fun _ => False) → Calls Tryz.prog 44 #[.pointer (some ⟨d, 0, none⟩), .int .i64 PZ] W fun e w' => e = .returned (.tuple #[]) ∧ Hid (∃ S', Bd E B w1 w6 kb d F5 S' 160000 wv5 es5 ρr w' ∧ Safe S' 20000 (qi es5 es5.length es5.length (2 + 3 * i0 + 1) i0).whole ∧ w'.heap[kb]? = some (.cells (zy d b5 wv5 false n5 false) 51 (0, 0)) ∧ ja w w' (fun _ => False))) := fun W kW => by
         refine ((hdr.same kW).cutted (Nat.lt_of_lt_of_le hkbr kW.size) PZ (by omega)).mono ?_
         rintro e w7 ⟨rfl, h7, k7⟩
         exact ⟨rfl, ⟨_, h7, hsr.alike (Alike.cut _ _), k7.same (kW.same hrr id) (fun t => t hdr.nkb.1), (hkr.trans kW (fun _ _ t => t)).trans k7 (fun j hj t => by have := hdr.new j t; omega)⟩⟩
       have q0 := zA (o := 0) hrr
       simp at q0
       have q0d : wr.drew.cell? ⟨kb, 0, none⟩ = some (.pointer (some ⟨d, 0, none⟩)) := q0
       have hzd : wr.drew.cell? ⟨zbv, zov + i, none⟩ = some (.int .i64 z) := hzc
       clear hzat hzr hzi hdr hsr hwr hrr hkr q0 hzc
       go_upto_region 13 with fail
       go_cut [] from 47 to 94 (fun wd => ∃ S', Bd E B w1 w6 kb d F5 S' 160000 wv5 es5 ρr wd ∧ Safe S' 20000 (qi es5 es5.length es5.length (2 + 3 * i0 + 1) i0).whole ∧ wd.heap[kb]? = some (.cells (zy d b5 wv5 false n5 false) 51 (0, 0)) ∧ ja w wd (fun _ => False))
       case first =>
         go_region_with (first | (go_at_call 25; refine (HPK.out _).mono ?_; rintro e w7 ⟨rfl, rfl⟩) | (go_at_call 44; refine (HCU.out _ (ja.drew _ _)).mono ?_; rintro e w8 ⟨rfl, h8⟩))
         all_goals
           go_wp2
           go_meet
         all_goals exact h8.out
       case rest =>
         rename World => w7
         obtain ⟨S7, hd7, hs7, hr7, hk7⟩ := hcut
         have q0 := zA (o := 0) hr7
         simp at q0
         have HOP := jb (open_whole hd7 hs7 (by omega) (zC hr7))
         have HD7 := jb hd7
         have HR7 := jb hr7
         have HK7 := jb hk7
         clear hd7 hs7 hr7 hk7 q0d hzd HCU HPK hpk
         go_wp2_with fail
         refine HOP.out.mono ?_
         rintro e w8 ⟨pv8, fv8, ρ8, S8, rfl, hd8, hs8, k8, hfv, _⟩
         have hr8 := k8.same HR7.out (fun t => t HD7.out.nkb.1)
         have hk8 := HK7.out.trans k8 (fun j hj t => by have := HD7.out.new j t; omega)
         have HCRA : Hid (∀ v ch, Zm w8 w1.heap.size v ch → Calls Tryz.prog 43 #[.pointer (some ⟨d, 0, none⟩), v] w8 fun e w' => e = .returned (.tuple #[]) ∧ Hid (StayAt E B w w1 w6 kb d F5 wv5 es5 (2 + 3 * i0 + 1) i0 (zy d b5 wv5 false n5 false) w')) := fun v ch hp => by
           refine (hd8.crashed (by omega) (zC hr8) (.inr hs8) hp).mono ?_
           rintro e w9 ⟨rfl, ρ9, hd9, k9⟩
           exact ⟨rfl, ⟨_, ρ9, hd9.fit' (by omega), (hs8.crashed ch).1, (hs8.crashed ch).2, k9.same hr8 (fun t => t hd8.nkb.1), hk8.trans k9 (fun j hj t => by have := hd8.new j t; omega)⟩⟩
         have q0 := zA (o := 0) hr8
         simp at q0
         have HCSI : Hid (i < nq → ∃ bqv oqv vqv ch, pq = some ⟨bqv, oqv, none⟩ ∧ w8.cell? ⟨bqv, oqv + i, none⟩ = some vqv ∧ Zm w8 w1.heap.size vqv ch) := fun hq => by
           obtain ⟨bqv, oqv, vqv, e1, e2, e3⟩ := HCS.out i (by rw [← HNQ.out]; exact hq)
           exact ⟨bqv, oqv, vqv, _, e1, hk8.cell e2 id, (e3.keep hk8 (fun _ _ t => t)).mono sz1⟩
         have HPN := jb (Zm.bare w8 w1.heap.size)
         clear hd8 hs8 k8 hr8 hk8 HOP HD7 HR7 HK7
         have hf1 : ((fv8 != 0) && (fv8 != 1)) = false := by rcases hfv with rfl | rfl <;> rfl
         rcases hfv with rfl | rfl
         all_goals
           rcases Nat.lt_or_ge i nq with hq | hq
           · have hqi : (i : Int) < (nq : Int) := by omega
             obtain ⟨bqv, oqv, vqv, ch, hpq, hcq, hpk⟩ := HCSI.out hq
             obtain ⟨p9, n9, c9, hvq⟩ : ∃ p n c, vqv = .slice p n c := by obtain ⟨o, c, e, _⟩ := hpk; exact ⟨o, _, c, e⟩
             subst hvq
             subst hpq
             have HCR := jb (HCRA.out _ _ hpk)
             clear hpk
             go_wp2_with fail
             refine HCR.out.mono ?_
             rintro e w9 ⟨rfl, h9⟩
             clear hcq q0
             go_wp2
             exact ⟨⟨i + 1, by simp, by omega, by omega, h9.out⟩, by simp [intOf]; omega⟩
           · have hqi : ¬ (i : Int) < (nq : Int) := by omega
             have HCR := jb (HCRA.out _ _ HPN.out)
             go_wp2_with fail
             refine HCR.out.mono ?_
             rintro e w9 ⟨rfl, h9⟩
             clear q0
             go_wp2
             exact ⟨⟨i + 1, by simp, by omega, by omega, h9.out⟩, by simp [intOf]; omega⟩
     · have HOP := jb (open_whole hdr hsr (by omega) hkbr)
       have q0 := zA (o := 0) hrr
       simp at q0
       have HDR := jb hdr
       have HWR := jb hwr
       have HKR := jb hkr
       have HRR := jb hrr
       have hb1 : ¬ (i : Int) < (nzv : Int) ∨ ((i : Int) < (nzv : Int) ∧ ¬ (i : Int) < 40) := by omega
       clear hdr hsr hwr hkr hrr hend
       rcases hb1 with hb1 | ⟨hb1, hb2⟩
       all_goals
         go_wp2_with fail
         refine HOP.out.mono ?_
         rintro e w8 ⟨pv8, fv8, ρ8, S8, rfl, hd8, hs8, k8, hfv, hwell⟩
         obtain ⟨b8v, F8v, s8, rfl, rfl, O8, N8v, W8, hF8⟩ := hwell HWR.out
         have hrw8 : w8.ownsRow w5.heap.size 65 2 (.slice pv (Rf.zn es5).length cv) (Rf.zn es5).length (qo (Rf.zn es5)) := hd8.wj.1.row HR6.out (fun g hg t => (HOFF.out g hg).1 t)
         have ht8 : s8.tell = Rf.zn es5 := by have := N8v.now.2; rwa [List.take_length] at this
         have hfw := N8v.few (by omega)
         have htn : s8.tell.length ≤ 100000 := by have : s8.tell.length ≤ s8.all.length := List.length_filter_le _ _; omega
         have HSC := jb (jga O8 N8v.ok N8v.Q2 (by omega) (by omega) [] [] 100000 (by omega))
         rw [Rf.jal s8 htn, ht8] at HSC
         have hF8k : ∀ g, (Value.slice pv (Rf.zn es5).length cv).ownBlock = some g → ¬ F8v g := fun g hg t => by
           rcases hF8 g t with t | t
           · exact t (HDR.out.off (HOFF.out g hg).2 (HOFF.out g hg).1)
           · have := (HOFF.out g hg).2; have := HDR.out.wj.1.size; omega
         have hF8n : ∀ j, F8v j → w.heap.size ≤ j := fun j t => by
           rcases hF8 j t with t | t
           · have := HDR.out.new j t; omega
           · have := HKR.out.size; omega
         have HK8 : Hid (ja w w8 (fun _ => False)) := (show _ from HKR.out.trans k8 (fun j hj t => by have := HDR.out.new j t; omega))
         have HRW8 := jb hrw8
         have HF8K := jb hF8k
         have HF8N := jb hF8n
         have HW8 := jb W8
         clear hd8 hs8 k8 hfv hwell O8 N8v hF8 hrw8 ht8 hfw htn hF8k hF8n W8 q0 HOP
         go_wp2_with fail
         refine HSC.out.mono ?_
         rintro e w9 ⟨S9, hL9, ⟨v9, rfl, hr9, F9, O9, k9, hF9⟩ | ⟨hnw, _⟩⟩
         case inr => exact absurd HW8.out hnw
         have HPR : Hid (Prs w9 v9 (Rf.zn es5)) := ⟨_, hr9⟩
         have HPW : Hid (Prs w9 (.slice pv (Rf.zn es5).length cv) (Rf.zn es5)) := ⟨_, k9.row HRW8.out (fun g hg t => HF8K.out g hg t)⟩
         obtain ⟨p9, c9, rfl⟩ := jm hr9
         have HSM := jb (jcj (.slice p9 (Rf.zn es5).length c9) (.slice pv (Rf.zn es5).length cv) _ _ HPR.out HPW.out rfl (by have := HKN.out; omega))
         rw [← HNK.out] at HSM ⊢
         have HK9 : Hid (ja w w9 (fun _ => False)) := (show _ from HK8.out.trans k9 (fun j hj t => by have := HF8N.out j t; omega))
         clear hr9 O9 k9 hF9 hL9 HSC
         go_wp2_with fail
         refine HSM.out.mono ?_
         rintro e w10 ⟨rfl, k10⟩
         have HK10 := jb (HK9.out.trans k10 (fun _ _ t => t))
         clear k10
         go_wp2
         go_ret
         exact ⟨rfl, HK10.out⟩
end Go.Proofs.YtnipbplghijdmaaGreatDoor
