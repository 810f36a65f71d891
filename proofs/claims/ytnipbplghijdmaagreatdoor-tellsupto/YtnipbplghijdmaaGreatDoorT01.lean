/-
  T: TellsF BookS StandR GetR TellsR PlayT.
-/
import Derived.JoinedCond
import Derived.Test.YtnipbplghijdmaaGreatDoorV42
namespace Go.Proofs.YtnipbplghijdmaaGreatDoor
set_option linter.unusedVariables false
theorem tells_fact0 : (Rows.tellsUptoRow.wf (OpenSpec.ofChange (Rows.OpenSpec.upto Rows.tellsSpec).bare)) = true := by kernel_rfl
theorem tells_fact1 : (laidOutB Tryz.prog) = true := by kernel_rfl
theorem tells_fact2 : (mapsRowed Tryz.prog) = true := by kernel_rfl
theorem tells_fact3 : (Tryz.f8.params.all (Tryz.prog.readableRec ·)) = true := by kernel_rfl
theorem tells_fact4 : (namedTie Tryz.prog Rows.tellsUptoRow.named (Rows.OpenSpec.upto Rows.tellsSpec).bare.vars) = true := by kernel_rfl
theorem tells_fact5 : ((Rows.tellsUptoRow.stops == [])) = true := by kernel_rfl
theorem tells_fact6 : ((Tryz.prog.stops == [])) = true := by kernel_rfl
theorem tells_fact7 : ((Rows.tellsUptoRow.knobs == [])) = true := by kernel_rfl
theorem tells_fact8 : ((Tryz.prog.stopKnobs == [])) = true := by kernel_rfl
theorem tells_fact9 : ((Rows.tellsUptoRow.inPlace == Tryz.prog.inPlace 8)) = true := by kernel_rfl
theorem tells_fact10 : ((Rows.tellsUptoRow.unfollowed == Tryz.prog.unfollowed 8)) = true := by kernel_rfl
theorem tells_fact11 : ((Rows.tellsUptoRow.recurses == Tryz.prog.recurses 8)) = true := by kernel_rfl
theorem tells_fact12 : ((Rows.tellsUptoRow.named == Tryz.prog.varsNamed 8)) = true := by kernel_rfl
theorem tells_fact13 : ((Rows.tellsUptoRow.maps == (Tryz.f8.params.toList ++ (Rows.OpenSpec.upto Rows.tellsSpec).bare.plain.varTypes Tryz.prog).any (Tryz.prog.mapsRec ·))) = true := by kernel_rfl
theorem tells_fact14 : ((Rows.tellsUptoRow.ifaces == (Tryz.f8.params.toList ++ (Rows.OpenSpec.upto Rows.tellsSpec).bare.plain.varTypes Tryz.prog).any (Tryz.prog.ifacesRec ·))) = true := by kernel_rfl
theorem tells_fact15 : ((Rows.tellsUptoRow.mapsOut == Tryz.prog.mapsAmong Tryz.f8.resultTypes.toList)) = true := by kernel_rfl
theorem tells_fact16 : ((Rows.tellsUptoRow.loops == (Tryz.f8.params.toList ++ (Rows.OpenSpec.upto Rows.tellsSpec).bare.plain.varTypes Tryz.prog).any (Tryz.prog.loopsFrom ·))) = true := by kernel_rfl
theorem tells_fact17 : ((Rows.tellsUptoRow.wideKeys == (Tryz.f8.params.toList ++ (Rows.OpenSpec.upto Rows.tellsSpec).bare.plain.varTypes Tryz.prog ++ Tryz.f8.resultTypes.toList).any (Tryz.prog.wideKeysFrom ·))) = true := by kernel_rfl
theorem tells_fact18 : ((Rows.OpenSpec.upto Rows.tellsSpec).bare.vars.all (Tryz.prog.varReadable ·)) = true := by kernel_rfl
theorem tells_fact19 : (Tryz.f8.resultTypes.all (fun t => Tryz.prog.readableRec t && decide (t < Tryz.prog.types.size))) = true := by kernel_rfl
theorem tells_fact20 : ((Rows.tellsUptoRow.ifacesOut == Tryz.f8.resultTypes.toList.any (Tryz.prog.ifacesRec ·))) = true := by kernel_rfl
theorem tells_fact21 : ((Rows.tellsUptoRow.loopsOut == Tryz.f8.resultTypes.toList.any (Tryz.prog.loopsFrom ·))) = true := by kernel_rfl
theorem tells_fact22 : ((Rows.tellsUptoRow.plainKeys == Tryz.prog.plainKeys)) = true := by kernel_rfl
theorem tells_fact23 : (Rows.tellsUptoRow.shortTexts.isNone) = true := by kernel_rfl
theorem tells_fact24 : (Tryz.prog.stopsHeard) = true := by kernel_rfl
theorem tells_fact25 : (Tryz.prog.mayEnter) = true := by kernel_rfl
theorem tells_fact26 : ((Rows.tellsUptoRow.lifted == Tryz.prog.liftsFinal)) = true := by kernel_rfl
theorem tells_fact27 : ((Tryz.prog.make == some Rows.tellsUptoRow.make)) = true := by kernel_rfl
theorem tells_fact29 : ((Rows.tellsUptoRow.pinned == Rows.tellsUptoRow.pinnedBy)) = true := by kernel_rfl
theorem tells_fact30 : ((Rows.tellsUptoRow.veiled == (Tryz.f8.params.toList ++ (Rows.OpenSpec.upto Rows.tellsSpec).bare.plain.varTypes Tryz.prog ++ Tryz.f8.resultTypes.toList).any (Tryz.prog.veiledRec ·))) = true := by kernel_rfl
theorem tells_fact31 : (Rows.tellsUptoRow.veiledFits Tryz.prog Tryz.f8.params.toList (Tryz.f8.params.toList ++ (Rows.OpenSpec.upto Rows.tellsSpec).bare.plain.varTypes Tryz.prog ++ Tryz.f8.resultTypes.toList)) = true := by kernel_rfl
end Go.Proofs.YtnipbplghijdmaaGreatDoor
namespace Go.Proofs.YtnipbplghijdmaaGreatDoor
open Go.RowKit Go.Maps Go.WideShapes
set_option linter.unusedVariables false
variable {U : Nat} {S S' : jc} {s t : Rf.St} {Q R : Want} {ess : List (List Rf.Ch)} {es : List Rf.Ch} {sf lv N L : Nat} {m : Rf.Man} {bls : List (List Rf.Ch)}
theorem Rest.alike (h : Rest S Q) (k : Alike S S') : Rest S' Q := h.imp (fun h => h.alike k) (fun h => h.alike k)
end Go.Proofs.YtnipbplghijdmaaGreatDoor
namespace Go.Proofs.YtnipbplghijdmaaGreatDoor
open Go.RowKit Go.Maps Go.WideShapes
set_option linter.unusedVariables false
variable {U : Nat} {S S' : jc} {s s' t : Rf.St} {Q R : Want} {ess : List (List Rf.Ch)} {es : List Rf.Ch} {sf N L N' L' : Nat} {fl bd : Bool}
theorem u5.down (h : u5 S s ess fl sf L bd) : u5 S s ess fl sf L true := ⟨fun e => ⟨rfl, (h.flb e).2⟩, h.sf, h.small, h.len, h.tell, h.ok, h.few, h.runs⟩
theorem X4.alike (h : X4 S s ess fl sf N L bd) (k : Alike S S') : X4 S' s ess fl sf N L bd :=
 ⟨h.st.alike k, h.xl.imp (fun h => ⟨h.1.alike k, h.2.alike k⟩) (fun h => ⟨h.1, h.2.alike k⟩)⟩
theorem X4.down (h : X4 S s ess fl sf N L bd) : X4 S s ess fl sf N L true := ⟨h.st.down, h.xl.imp id (fun h => ⟨rfl, h.2⟩)⟩
end Go.Proofs.YtnipbplghijdmaaGreatDoor
namespace Go.Proofs.YtnipbplghijdmaaGreatDoor
open Go.RowKit Go.Maps Go.WideShapes
set_option linter.unusedVariables false
variable {E : Nat → Addr} {B : Nat} {w w' : World} {d b k U V : Nat} {S S' : jc} {s : Rf.St} {deg : Bool} {F : Nat → Prop}
theorem get_tell {s : Rf.St} (ok : s.Ok) {c : Rf.Ch} (hc : c ∈ s.tell) : R6 (Rf.yb s.all c.key) = (c.value, true) := by
 have hall : Rf.jw s.all := Rf.y9 _
 have hm : c ∈ s.all := Rf.Li _ c hc
 have hg : c.gone = false := (Rf.St.jae s).1 c hc
 have e : Rf.yb s.all c.key = some c := Rf.mg hall hm
 rw [e]
 unfold R6
 simp [hg]
end Go.Proofs.YtnipbplghijdmaaGreatDoor
namespace Go.Proofs.YtnipbplghijdmaaGreatDoor
open Go.RowKit Go.Maps Go.WideShapes
set_option linter.unusedVariables false
set_option linter.unusedSimpArgs false
variable {E : Nat → Addr} {B : Nat} {w w' w0 wz : World} {d b k kb U V N L : Nat} {S S' : jc} {s : Rf.St} {deg : Bool} {F T : Nat → Prop} {ess : List (List Rf.Ch)} {wv : Value} {fl bd : Bool} {sf lv : Nat}
def TellPost (E : Nat → Addr) (B : Nat) (w0 w : World) (kb d b : Nat) (S : jc) (s : Rf.St) (wv : Value) (ess : List (List Rf.Ch)) (fl : Bool) (sf : Nat) (bd : Bool) (F : Nat → Prop) (w' : World) : Prop :=
 ∃ S' bd' F', xi S S' ∧ Bk E B w0 kb d b S' s wv ess fl sf bd' F' w' ∧ (bd' = bd ∨ (bd' = true ∧ ¬ qh S)) ∧ zz w (bkG F kb wv) w' (bkG F' kb wv)
theorem Bk.asked (h : Bk E B w0 kb d b S s wv ess fl sf bd F w) (hp : qg E B w d b S' 160000 s bd F w') : ∃ F', Bk E B w0 kb d b S' s wv ess fl sf bd F' w' ∧ zz w (bkG F kb wv) w' (bkG F' kb wv) := by
 obtain ⟨F', h1, h2⟩ := h.ud hp (Nat.le_refl _)
 exact ⟨F', h1.Ke, h2.bk⟩
theorem enter_tGet (ys : Array Value) (w : World) : (callFunc 33 ys).run Tryz.prog w = .ok (.enter 33 ys) w := by kernel_rfl
set_option maxHeartbeats 4000000 in
set_option maxRecDepth 100000 in
theorem tells_m (h : Bk E B w0 kb d b S s wv ess fl sf bd F w) (hS : u5 S s ess fl sf L bd) (hL : L ≤ 131072) :
   Calls Tryz.prog 39 #[.pointer (some ⟨kb, 0, none⟩)] w fun e w' => e = .returned (.bool true) ∧ TellPost E B w0 w kb d b S s wv ess fl sf bd F w' := by
 obtain ⟨pw, cw, hwv⟩ := h.slice
 obtain ⟨nl, hnl⟩ : ∃ nl, nl = ess.length := ⟨_, rfl⟩
 have hlen : nl ≤ L := by rw [hnl]; exact hS.len
 obtain ⟨lv, hlv⟩ : ∃ lv, lv = nl - fl.toNat := ⟨_, rfl⟩
 have hlvn : lv ≤ nl := by omega
 have htl : s.tell = Rf.zn (ess.take lv) := by rw [hlv, hnl]; exact hS.tell
 have htn : s.tell.length ≤ 100000 := by have : s.tell.length ≤ s.all.length := List.length_filter_le _ _; have := hS.few; omega
 have hrow := h.row
 rw [hwv, ← hnl] at hrow
 have HLIVE : Hid (∀ W, ja w W (fun _ => False) → Calls Tryz.prog 42 #[.pointer (some ⟨kb, 0, none⟩)] W fun e w' => e = .returned (j7 lv) ∧ w' = W) := fun W kW => by
   rw [hlv]
   exact ja6 (kW.same hrow id) (fun e => by have := (hS.flb e).2; have := List.length_pos_iff.2 this; omega) (by omega)
 have HFOLD : Hid (∀ W, ja w W (fun _ => False) → Calls Tryz.prog 30 #[.slice pw nl cw, j7 lv] W fun e w' => ∃ v, e = .returned v ∧ w'.ownsRow W.heap.size 65 2 v s.tell.length (qo s.tell) ∧ ja W w' (fun _ => False)) := fun W kW => by
   have := Uu wv ess ((h.wr.wri).same kW) hS.small lv (by omega) (by omega)
   rw [hwv, ← hnl, ← htl] at this
   exact this
 have c2 := zA (o := 2) hrow
 simp at c2
 have c2d : w.drew.cell? ⟨kb, 2, none⟩ = some (.slice pw nl cw) := c2
 have HH := jb h
 have HS := jb hS
 have HTN := jb htn
 clear h hS htl htn hrow hwv hnl hlv hlen hlvn c2
 go_enter Tryz.func39, Tryz.ntmps39
 go_upto_region 1 with fail
 go_cut [3] from 11 (fun s3 wd => w.heap.size ≤ wd.heap.size ∧ wd.ownsRow w.heap.size 65 2 s3 s.tell.length (qo s.tell) ∧ ja w wd (fun _ => False))
 case first =>
   go_region_with (first | (go_at_call 42; refine (HLIVE.out _ (ja.drew _ _)).mono ?_; rintro e w1 ⟨rfl, rfl⟩) | (go_at_call 30; refine (HFOLD.out _ (ja.drew _ _)).mono ?_; rintro e w2 ⟨v2, rfl, hr2, k2⟩))
   all_goals
     have kw2 := (ja.drew w (fun _ => False)).trans k2 (fun _ _ t => t)
     have hr2' : w2.ownsRow w.heap.size 65 2 v2 s.tell.length (qo s.tell) := hr2
     have HK2 := jb kw2
     have HR2 := jb hr2'
     clear hr2 k2 kw2 hr2'
     go_wp2
     go_meet
   all_goals exact ⟨HK2.out.size, HR2.out, HK2.out⟩
 case rest =>
   rename World => w1
   obtain ⟨hsz, hrv, kv⟩ := hcut
   obtain ⟨pv, cv, rfl⟩ := jm hrv
   have hb1 := HH.out.same kv
   have c1 := zA (o := 1) hb1.row
   simp at c1
   obtain ⟨n, hn⟩ : ∃ n, n = s.tell.length := ⟨_, rfl⟩
   have HOFF : Hid (∀ g, (Value.slice pv s.tell.length cv).ownBlock = some g → ¬ bkG F kb wv g ∧ g < w1.heap.size) := fun g hg => ⟨fun t => by have := (hrv.lt g hg).1; have := (HH.out.lt t).2; omega, (hrv.lt g hg).2⟩
   have HRV := jb hrv
   have HB1 := jb hb1
   have HSC := jb (jga hb1.own HS.out.ok HS.out.runs (by omega) (by have := HS.out.few; omega) [] [] 100000 (by omega))
   rw [Rf.jal s HTN.out] at HSC
   rw [← hn]
   have HN := jb hn
   have HKV := jb kv
   have hnb : n ≤ 100000 := by rw [hn]; exact HTN.out
   clear hrv hb1 hn hsz kv c2d HLIVE HFOLD
   go_wp2_with fail
   refine HSC.out.mono ?_
   rintro e w3 ⟨S3, hL3, ⟨v3, rfl, hr3, hp3⟩ | ⟨hnw, rfl, hp3⟩⟩
   · obtain ⟨F3, hb3, hg3⟩ := HB1.out.asked hp3
     have HPR3 : Hid (Prs w3 v3 s.tell) := ⟨_, hr3⟩
     have HPW3 : Hid (Prs w3 (.slice pv s.tell.length cv) s.tell) := ⟨_, hg3.1.row HRV.out (fun g hg t => (HOFF.out g hg).1 t)⟩
     obtain ⟨p3, c3, rfl⟩ := jm hr3
     have HSM := jb (jcj (.slice p3 s.tell.length c3) (.slice pv s.tell.length cv) s.tell s.tell HPR3.out HPW3.out rfl (by have := HTN.out; omega))
     rw [← HN.out] at HSM ⊢
     have HB3 := jb hb3
     have HG3 := jb hg3
     have HL3 := jb hL3
     clear hb3 hg3 hL3 hr3 hp3 c1
     go_wp2_with fail
     refine HSM.out.mono ?_
     rintro e w4 ⟨rfl, k4⟩
     have HP4 : Hid (∃ S4 F4, xi S S4 ∧ Bk E B w0 kb d b S4 s wv ess fl sf bd F4 w4 ∧ zz w1 (bkG F kb wv) w4 (bkG F4 kb wv)) := (show _ from ⟨S3, F3, HL3.out, HB3.out.same k4, HG3.out.same k4⟩)
     clear k4
     go_wp2_with fail
     go_loopw [7, 8, 9, 10] (fun t7 _ _ _ wr => ∃ i : Nat, t7 = .int .i64 i ∧ i ≤ n ∧ ∃ S4 F4, xi S S4 ∧ Bk E B w0 kb d b S4 s wv ess fl sf bd F4 wr ∧ zz w1 (bkG F kb wv) wr (bkG F4 kb wv)) (fun t7 _ _ _ _ => n - (intOf t7).toNat)
     case atStart => exact ⟨0, rfl, Nat.zero_le _, HP4.out⟩
     case round =>
       obtain ⟨i, rfl, hin, S4, F4, hL4, hb4, hg4⟩ := hrel
       rcases Nat.lt_or_ge i n with hlt | hge
       · have hii : (i : Int) < (n : Int) := by omega
         have hwi : IntKind.i64.wrap ((i : Int) + 1) = (i : Int) + 1 := zE (by omega) (by omega)
         have hi2 : i < s.tell.length := by rw [← HN.out]; exact hlt
         have HPR : ∀ W, ja w1 W (bkG F kb wv) → ∃ g c, Value.slice pv s.tell.length cv = .slice (some ⟨g, 0, none⟩) s.tell.length c ∧ W.cell? ⟨g, i * 2, none⟩ = some (jf s.tell[i].key) ∧ W.cell? ⟨g, i * 2 + 1, none⟩ = some (jf s.tell[i].value) := fun W kW => Prs.at (l := s.tell) ⟨_, kW.row HRV.out (fun g hg t => (HOFF.out g hg).1 t)⟩ hi2
         obtain ⟨g, c', e1, a0, a1⟩ := HPR wr hg4.1
         have HPRH := jb HPR
         have hga := get_tell HS.out.ok (c := s.tell[i]) (List.getElem_mem hi2)
         have HGET : Hid (∀ W, ja wr W (fun _ => False) → Calls Tryz.prog 33 #[.pointer (some ⟨b, 0, none⟩), jf s.tell[i].key] W fun e w' => ∃ (x : Str) (y : Bool) (z : Int), e = .returned (.tuple #[jf x, .bool y, .int .i64 z]) ∧ Hid ((x = s.tell[i].value ∧ y = true ∧ z = 0 ∧ ∃ S5 F5, xi S S5 ∧ Bk E B w0 kb d b S5 s wv ess fl sf bd F5 w' ∧ zz w1 (bkG F kb wv) w' (bkG F5 kb wv)) ∨ (x = [] ∧ y = false ∧ z = 1 ∧ ¬ qh S ∧ ∃ S5 F5, xi S S5 ∧ BkD E B w0 kb d b S5 s wv ess fl sf bd true F5 w' ∧ zz w1 (bkG F kb wv) w' (bkG F5 kb wv)))) := fun W kW => by
           have := jfv (hb4.own.same kW) HS.out.ok (HS.out.runs.alike hL4.jha) (by omega) s.tell[i].key
           rw [hga] at this
           refine this.mono ?_
           rintro e w' ⟨S6, hL6, ⟨rfl, hp6⟩ | ⟨hnw, rfl, hp6⟩⟩
           · obtain ⟨F6, hb6, hg6⟩ := (hb4.same kW).asked hp6
             exact ⟨_, _, _, rfl, .inl ⟨rfl, rfl, rfl, S6, F6, hL4.trans hL6, hb6, (hg4.same kW).trans hg6⟩⟩
           · obtain ⟨F6, hb6, hg6⟩ := (hb4.same kW).ud hp6 (Nat.le_refl _)
             exact ⟨_, _, _, rfl, .inr ⟨rfl, rfl, rfl, fun t => hnw (hL4.u9 t), S6, F6, hL4.trans hL6, hb6, (hg4.same kW).trans hg6.bk⟩⟩
         injection e1 with e1 eq2 eq3
         clear eq2 eq3
         subst e1
         have c1 := zA (o := 1) hb4.row
         have c5 := zA (o := 5) hb4.row
         simp at c1 c5
         have a0d : wr.drew.cell? ⟨g, i * 2, none⟩ = some (jf s.tell[i].key) := a0
         have c1d : wr.drew.cell? ⟨kb, 1, none⟩ = some (.pointer (some ⟨b, 0, none⟩)) := c1
         have HA1 : Hid (∀ W, ja w1 W (bkG F kb wv) → W.cell? ⟨g, i * 2 + 1, none⟩ = some (jf s.tell[i].value)) := fun W kW => by
           obtain ⟨g', c'', e, _, h⟩ := HPRH.out W kW
           injection e with e _ _
           cases e
           exact h
         generalize s.tell[i].key = K at HGET a0 a0d
         generalize s.tell[i].value = X at HGET a1 HA1
         have HB4 := jb hb4
         have HG4 := jb hg4
         have HL4 := jb hL4
         clear hb4 hg4 hL4 hga HPR HPRH a0 c1 c5 a1 hi2
         go_upto_region 12 with fail
         go_cut [8, 9, 10] from 43 to 88 (fun s8 s9 s10 wd => ∃ (x : Str) (y : Bool) (z : Int), s8 = jf x ∧ s9 = .bool y ∧ s10 = .int .i64 z ∧ Hid ((x = X ∧ y = true ∧ z = 0 ∧ ∃ S5 F5, xi S S5 ∧ Bk E B w0 kb d b S5 s wv ess fl sf bd F5 wd ∧ zz w1 (bkG F kb wv) wd (bkG F5 kb wv)) ∨ (x = [] ∧ y = false ∧ z = 1 ∧ ¬ qh S ∧ ∃ S5 F5, xi S S5 ∧ BkD E B w0 kb d b S5 s wv ess fl sf bd true F5 wd ∧ zz w1 (bkG F kb wv) wd (bkG F5 kb wv))))
         case first =>
           have kd : ja wr wr.drew (fun _ => False) := ja.drew _ _
           go_region_law (first
             | (refine jz rfl 33 [.tmp 53, .tmp 58] _ rfl enter_tGet [.pointer (some ⟨b, 0, none⟩), jf K] (by simp [Act.eval, Act.put]) (HGET.out _ kd) ?_
                rintro e w6 ⟨x6, y6, z6, rfl, h6⟩
                refine ⟨_, rfl, ?_⟩))
           all_goals
             go_wp2
             go_meet
           all_goals exact ⟨_, _, _, rfl, rfl, rfl, h6⟩
         case rest =>
           obtain ⟨x6, y6, z6, rfl, rfl, rfl, h6⟩ := hcut
           rcases h6.out with ⟨rfl, rfl, rfl, S5, F5, hL5, hb5, hg5⟩ | ⟨rfl, rfl, rfl, hnw, S5, F5, hL5, hb5, hg5⟩
           · have a1 := HA1.out wc hg5.1
             have HE : Hid (∃ S5 F5, xi S S5 ∧ Bk E B w0 kb d b S5 s wv ess fl sf bd F5 wc ∧ zz w1 (bkG F kb wv) wc (bkG F5 kb wv)) := (show _ from ⟨S5, F5, hL5, hb5, hg5⟩)
             clear hb5 hg5 hL5
             go_wp2
             exact ⟨⟨i + 1, by simp, by omega, HE.out⟩, by simp [intOf]; omega⟩
           · have c5 := zA (o := 5) hb5.row
             have f5 := zB (o := 5) hb5.row
             simp at c5
             have HB5 := jb hb5
             have HG5 := jb (zz.after HKV.out hg5)
             have HL5 := jb hL5
             have HNW := jb hnw
             clear hb5 hg5 hL5 hnw
             go_wp2
             go_ret
             have k4 := Zz wc kb 5 (.bool true)
             have hr4 : (wc.setCell ⟨kb, 5, none⟩ (.bool true)).heap[kb]? = some (.cells (zy d b wv fl sf true) 51 (0, 0)) := (jd HB5.out.row _).trans rfl
             exact ⟨rfl, S5, true, F5, HL5.out, (HB5.out.mark k4 hr4).Ke, .inr ⟨rfl, HNW.out⟩, Xn HG5.out k4⟩
       · have hii : ¬ (i : Int) < (n : Int) := by omega
         have H6 : Hid (TellPost E B w0 w kb d b S s wv ess fl sf bd F wr) := (show _ from ⟨S4, bd, F4, hL4, hb4, .inl rfl, zz.after HKV.out hg4⟩)
         clear hb4 hL4 hg4
         go_wp2
         go_ret
         exact ⟨rfl, H6.out⟩
   · obtain ⟨F3, hb3, hg3⟩ := HB1.out.ud hp3 (Nat.le_refl _)
     have c5 := zA (o := 5) hb3.row
     have f5 := zB (o := 5) hb3.row
     simp at c5
     have HB3 := jb hb3
     have HG3 := jb (zz.after HKV.out (hg3.bk (kb := kb) (wv := wv)))
     have HL3 := jb hL3
     have HNW := jb hnw
     clear hb3 hg3 hL3 hp3 c1 hnw
     go_wp2
     go_ret
     have k4 := Zz w3 kb 5 (.bool true)
     have hr4 : (w3.setCell ⟨kb, 5, none⟩ (.bool true)).heap[kb]? = some (.cells (zy d b wv fl sf true) 51 (0, 0)) := (jd HB3.out.row _).trans rfl
     exact ⟨rfl, S3, true, F3, HL3.out, (HB3.out.mark k4 hr4).Ke, .inr ⟨rfl, HNW.out⟩, Xn HG3.out k4⟩
end Go.Proofs.YtnipbplghijdmaaGreatDoor
namespace Go.Proofs.YtnipbplghijdmaaGreatDoor
open Go.RowKit Go.Maps Go.WideShapes
set_option linter.unusedVariables false
set_option linter.unusedSimpArgs false
variable {E : Nat → Addr} {B : Nat} {w w' w0 wz : World} {d b k kb U V N L : Nat} {S S' : jc} {s : Rf.St} {F T : Nat → Prop} {ess : List (List Rf.Ch)} {wv : Value} {fl bd : Bool} {sf lv : Nat}
theorem TellPost.stand (h : TellPost E B w0 wz kb d b S s wv ess fl sf bd F w) (hS : X4 S s ess fl sf N L bd) : ∃ S' bd' F', xi S S' ∧ Bk E B w0 kb d b S' s wv ess fl sf bd' F' w ∧ X4 S' s ess fl sf N L bd' ∧ zz wz (bkG F kb wv) w (bkG F' kb wv) := by
 obtain ⟨S', bd', F', hL, hb, h1, hg⟩ := h
 refine ⟨S', bd', F', hL, hb, ?_, hg⟩
 rcases h1 with rfl | ⟨rfl, _⟩
 · exact hS.alike hL.jha
 · exact (hS.alike hL.jha).down
set_option maxHeartbeats 4000000 in
set_option maxRecDepth 100000 in
theorem played_t (H : Env E B w) (hB : B ≤ w.heap.size) {p : Option Addr} {pc : Nat} {ac : List X5} (hops : Vx w w.heap.size p ac) (hn : ac.length ≤ 131072) :
   Calls Tryz.prog 34 #[.slice p ac.length pc, .bool true] w (I4 E B w) := by
 have HSURE := jb (jf2 H hB)
 obtain ⟨n, hnn⟩ : ∃ n, n = ac.length := ⟨_, rfl⟩
 rw [← hnn] at hn ⊢
 have HN := jb hnn
 have HOPS := jb hops
 clear hops hnn
 go_enter Tryz.func34, Tryz.ntmps34
 go_wp2_with fail
 refine HSURE.out.mono ?_
 rintro e w1 ⟨rfl, k1⟩
 have HBEG := jb (jfk (H.same k1) (Nat.le_trans hB k1.size))
 have HK1 := jb k1
 clear k1
 go_wp2_with fail
 refine HBEG.out.mono ?_
 rintro e w2 ⟨kb, d, b, S, F, rfl, hb, hS, hW, k2⟩
 have HP0 : Hid (we E B w w1 kb d 0 w2) := (show _ from ⟨b, S, _, _, _, _, _, _, F, hb, hS, hW, HK1.out.trans k2 (fun _ _ t => t)⟩)
 clear hb hS hW k2 HBEG HSURE
 go_wp2_with fail
 go_loopw [7, 8, 9] (fun t7 _ _ wr => ∃ i : Nat, t7 = .int .i64 i ∧ i ≤ n ∧ we E B w w1 kb d i wr) (fun t7 _ _ _ => n - (intOf t7).toNat)
 case atStart => exact ⟨0, rfl, Nat.zero_le _, HP0.out⟩
 case round =>
   obtain ⟨i, rfl, hin, hP⟩ := hrel
   have HP := jb hP
   have sz1 := HK1.out.size
   have HPOST : Hid (∀ W, ja wr W (fun _ => False) → I4 E B w (.returned (.pointer (some ⟨kb, 0, none⟩))) W) := fun W kW => ⟨kb, d, w1, i, rfl, sz1, by omega, hP.same kW⟩
   obtain ⟨b, S, s, wv, ess, fl, sf, bd, F, hb, hS, hW, hk⟩ := hP
   rcases Nat.lt_or_ge i n with hlt | hge
   · have hii : (i : Int) < (n : Int) := by omega
     have hwi : IntKind.i64.wrap ((i : Int) + 1) = (i : Int) + 1 := zE (by omega) (by omega)
     have hi2 : i < ac.length := by rw [← HN.out]; exact hlt
     obtain ⟨xb, xo, hp, hop0⟩ := HOPS.out i hi2
     subst hp
     have HFU := jb (hb.full hS)
     rcases Nat.lt_or_ge 5000 (total S.files S.names) with hv | hv
     · have hd : decide (5000 < total S.files S.names) = true := by simpa using hv
       rw [hd] at HFU
       clear hd hv hop0 hb hS hW hk hi2
       go_wp2_with fail
       refine HFU.out.mono ?_
       rintro e w3 ⟨rfl, k3⟩
       have H3 := jb (HPOST.out w3 k3)
       clear k3
       go_wp2
       go_ret
       exact H3.out
     · have hd : decide (5000 < total S.files S.names) = false := by simp; omega
       rw [hd] at HFU
       have HOW : Hid (∀ W, ja w W (fun _ => False) → B8 W w.heap.size xb (xo + i * 7) ac[i]) := fun W kW => hop0.keep kW (fun _ _ t => t)
       have HOP : Hid (∀ W, ja wr W (fun _ => False) → B8 W w.heap.size xb (xo + i * 7) ac[i]) := fun W kW => (hop0.keep hk (fun _ _ t => t)).keep kW (fun _ _ t => t)
       have HACT : Hid (∀ W, ja wr W (fun _ => False) → Calls Tryz.prog 76 #[.pointer (some ⟨kb, 0, none⟩), .agg ac[i].row] W fun e w' => e = .returned (.bool true) ∧ Hid (we E B w w1 kb d (i + 1) w')) := fun W kW => by
         refine (jhe (hb.same kW) (hS.small hv) hv (by omega) (by omega) hW ac[i] ((HOP.out W kW).ok.mono sz1)).mono ?_
         rintro e w' ⟨rfl, b', S', s', wv', ess', fl', sf', bd', F', h1, h2, h3, h4⟩
         exact ⟨rfl, ⟨b', S', s', wv', ess', fl', sf', bd', F', h1, h2.mono (by omega) (Nat.le_refl _), h3, (hk.trans kW (fun _ _ t => t)).trans h4.1 (fun j hj t => by have := ((hb.same kW).lt t).1; omega)⟩⟩
       have hab := (HOP.out wr (ja.refl _ _)).ok
       clear hd hv hop0 hb hS hW hk
       generalize ac[i] = x at HOP HACT HOW hab
       obtain ⟨kd, xA, xN, kv, keys, fa, ct, cv, chs⟩ := x
       have HPA : Hid (∀ W, Calls Tryz.prog 25 #[.int .i64 xA, .int .i64 20] W fun e w' => e = .returned (.int .i64 (X2 xA 20)) ∧ w' = W) := fun W => Y5 xA hab.A.1 hab.A.2 20 (by decide) (by decide) W
       have HPB : Hid (∀ W, Calls Tryz.prog 25 #[.int .i64 xN, .int .i64 4] W fun e w' => e = .returned (.int .i64 (X2 xN 4)) ∧ w' = W) := fun W => Y5 xN hab.N.1 hab.N.2 4 (by decide) (by decide) W
       have hpa := aw xA (n := 20) (by decide)
       generalize X2 xA 20 = PA at HPA hpa
       generalize X2 xN 4 = PB at HPB
       clear hab
       go_wp2_with fail
       refine HFU.out.mono ?_
       rintro e w3 ⟨rfl, k3⟩
       have hop := HOP.out w3 k3
       have c0 := hop.c0
       have c1 := hop.c1
       have c2 := hop.c2
       have c3 := hop.c3
       have c4 := hop.c4
       have c5 := hop.c5
       have c6 := hop.c6
       simp only at c0 c1 c2 c3 c4 c5 c6
       have HAC := jb (HACT.out w3 k3)
       clear hop k3 hi2 HACT HOP HFU
       go_wp2_with fail
       refine HAC.out.mono ?_
       rintro e w4 ⟨rfl, h4⟩
       clear c0 c1 c2 c3 c4 c5 c6 HAC
       obtain ⟨b4, S4, s4, wv4, ess4, fl4, sf4, bd4, F4, hb4, hS4, hW4, hk4⟩ := h4.out
       have hop4 := HOW.out w4 hk4
       have c1 := hop4.c1
       have c2 := hop4.c2
       have r0 := zA (o := 0) hb4.row
       simp only at c1 c2
       simp at r0
       have HFA : Hid (∀ W, ja w4 W (fun _ => False) → Calls Tryz.prog 35 #[.pointer (some ⟨d, 0, none⟩), .int .i64 PA] W fun e w' => e = .returned (.tuple #[]) ∧ Hid (∃ S5 F5, Bk E B w1 kb d b4 S5 s4 wv4 ess4 fl4 sf4 bd4 F5 w' ∧ Alike S4 S5 ∧ S5.cut = -1 ∧ ja w w' (fun _ => False))) := fun W kW => by
         refine ((hb4.same kW).fail PA (by omega)).mono ?_
         rintro e w5 ⟨rfl, F5, h5, g5⟩
         exact ⟨rfl, ⟨_, F5, h5, Alike.fail _ _, hW4.cut, (hk4.trans kW (fun _ _ t => t)).trans g5.1 (fun j hj t => by have := ((hb4.same kW).lt t).1; omega)⟩⟩
       have HAR0 : Hid (∃ S5 F5, Bk E B w1 kb d b4 S5 s4 wv4 ess4 fl4 sf4 bd4 F5 w4 ∧ Alike S4 S5 ∧ S5.cut = -1 ∧ ja w w4 (fun _ => False)) := (show _ from ⟨S4, F4, hb4, Alike.refl _, hW4.cut, hk4⟩)
       have HS4 := jb hS4
       clear hop4 hb4 hS4 hW4 hk4 h4 HP HPOST
       go_wp2_with fail
       refine (HPB.out _).mono ?_
       rintro e w5 ⟨rfl, hw5⟩
       subst w5
       go_upto_if 43 with fail
       go_cut [] from 18 to 63 (fun wd => ∃ S5 F5, Bk E B w1 kb d b4 S5 s4 wv4 ess4 fl4 sf4 bd4 F5 wd ∧ Alike S4 S5 ∧ S5.cut = -1 ∧ ja w wd (fun _ => False))
       case first =>
         by_cases hPB : PB = 0
         · subst hPB
           have c1d : w4.drew.cell? ⟨xb, xo + i * 7 + 1, none⟩ = some (.int .i64 xA) := c1
           have r0d : w4.drew.cell? ⟨kb, 0, none⟩ = some (.pointer (some ⟨d, 0, none⟩)) := r0
           go_upto_region 16 with fail
           go_region_with (first | (go_at_call 25; refine (HPA.out _).mono ?_; rintro e w6 ⟨rfl, rfl⟩) | (go_at_call 35; refine (HFA.out _ (ja.drew _ _)).mono ?_; rintro e w7 ⟨rfl, h7⟩))
           all_goals
             go_wp2
             go_meet
           all_goals exact h7.out
         · have hpb : ((PB : Int) == 0) = false := by simp; omega
           go_wp2
           go_meet
           case rel => exact HAR0.out
       case rest =>
         obtain ⟨S5, F5, hb5, al5, hc5, hk5⟩ := hcut
         have hS5 := HS4.out.alike al5
         have HTE := jb (tells_m hb5 hS5.st (by omega))
         have HB5 := jb hb5
         have HS5 := jb hS5
         have HC5 := jb hc5
         have HK5 := jb hk5
         clear hb5 al5 hc5 hk5 hS5 c1 c2 r0 HFA HAR0 HS4
         go_wp2_with fail
         refine HTE.out.mono ?_
         rintro e w6 ⟨rfl, h6⟩
         obtain ⟨S6, bd6, F6, hL6, hb6, hS6, hg6⟩ := h6.stand HS5.out
         have r0 := zA (o := 0) hb6.row
         simp at r0
         have HFA := jb (hb6.fail (-1) (by omega))
         have HB6 := jb hb6
         have HS6 := jb hS6
         have HC6 := jb (hL6.cut HC5.out)
         have HK6 : Hid (ja w w6 (fun _ => False)) := (show _ from HK5.out.trans hg6.1 (fun j hj t => by have := (HB5.out.lt t).1; omega))
         clear h6 hb6 hS6 hL6 hg6
         go_wp2_with fail
         refine HFA.out.mono ?_
         rintro e w7 ⟨rfl, F7v, h7, g7⟩
         have H7v : Hid (we E B w w1 kb d (i + 1) w7) := (show _ from ⟨b4, _, s4, wv4, ess4, fl4, sf4, bd6, F7v, h7, HS6.out.alike (Alike.fail _ _), ⟨rfl, HC6.out⟩, HK6.out.trans g7.1 (fun j hj t => by have := (HB6.out.lt t).1; omega)⟩)
         clear h7 g7 r0
         go_wp2
         exact ⟨⟨i + 1, by simp, by omega, H7v.out⟩, by simp [intOf]; omega⟩
   · have hii : ¬ (i : Int) < (n : Int) := by omega
     have H3 := jb (HPOST.out wr (ja.refl _ _))
     clear hb hS hW hk
     go_wp2
     go_ret
     exact H3.out
set_option maxRecDepth 100000 in
theorem tells_law (H : Env E B w) (hB : B ≤ w.heap.size) {p : Option Addr} {pc : Nat} {ac : List X5} (hops : Vx w w.heap.size p ac) (hn : ac.length ≤ 131072) :
   Calls Tryz.prog 8 #[.slice p ac.length pc] w fun e w' => e = .returned (.bool true) ∧ ja w w' (fun _ => False) := by
 have HPL := jb (played_t H hB (pc := pc) hops hn)
 obtain ⟨n, hnn⟩ : ∃ n, n = ac.length := ⟨_, rfl⟩
 rw [← hnn] at HPL ⊢
 clear hops hn hnn
 go_enter Tryz.func8, Tryz.ntmps8
 go_wp2_with fail
 refine HPL.out.mono ?_
 rintro e w1 ⟨kb, d, w2, i, rfl, _, _, h1⟩
 have HK : Hid (ja w w1 (fun _ => False)) := (show _ from by obtain ⟨_, _, _, _, _, _, _, _, _, _, _, _, h⟩ := h1; exact h)
 clear h1
 go_wp2
 go_ret
 exact ⟨rfl, HK.out⟩
end Go.Proofs.YtnipbplghijdmaaGreatDoor
